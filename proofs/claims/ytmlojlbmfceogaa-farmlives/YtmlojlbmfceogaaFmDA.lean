/-
  The contract of slices.Delete at messages, of one of them, in a row of one's own. The contract of farm.arrive.
-/
import Derived.Test.YtmlojlbmfceogaaFmAt
import Derived.Deep.DeepAppendRoom

namespace Go.Proofs.Ytmlojlbmfceogaa
open Go Go.RowKit
set_option linter.unusedVariables false

attribute [local go_sem] lat_cell

theorem run_clear_at {P : Program} (w : World) (t e ty : TypeId) (z : Value) (ht : P.underlying t = some (.slice e)) (hv : ∀ w, (zeroValue e).run P w = .ok z w) (g o n c : Nat) (hn : 0 < n) (cur : Array Value) (hg : w.heap[g]? = some (.cells cur e (0, 0)))
    (zs : List Value) (hzs : (Builtin.zeroCells z.cells n).toList = zs) (hfit : o + zs.length ≤ cur.size) (h1 : ∀ u ∈ zs, u.oneCell' = true) :
    (Builtin.clear_ #[t] ty #[.slice (some ⟨g, o, none⟩) n c]).run P w = .ok (.tuple #[]) (w.setRow g (cur.toList.take o ++ (zs ++ cur.toList.drop (o + zs.length))).toArray) := by
  have hst := run_storeCells_at P g o e zs 0 cur w hg (by simpa using hfit) h1
  simp only [Nat.add_zero, List.append_assoc] at hst
  obtain ⟨m, rfl⟩ : ∃ m, n = m + 1 := ⟨n - 1, by omega⟩
  simp [Builtin.clear_, run_underlying ht, hv, hzs, hst]
theorem wpList_clear {P : Program} {w : World} {ops : Array Oper} {rest : List Oper} {o : Oper} {a : Act} {Q : Exit → Act → World → Prop} (hgd : o.guard = none) (s : Operand) (t e : TypeId) (ho : o.op = .call { callee := .builtin .clear, args := #[s], argTypes := #[t] })
    (z : Value) (ht : P.underlying t = some (.slice e)) (hv : ∀ w, (zeroValue e).run P w = .ok z w) (g of n c : Nat) (hs : a.eval s = .slice (some ⟨g, of, none⟩) n c) (hn : 0 < n) (cur : Array Value) (hg : w.heap[g]? = some (.cells cur e (0, 0)))
    (zs : List Value) (hzs : (Builtin.zeroCells z.cells n).toList = zs) (hfit : of + zs.length ≤ cur.size) (h1 : ∀ u ∈ zs, u.oneCell' = true)
    (h : wpList P ops Q rest (a.put o.dst (.tuple #[])) (w.setRow g (cur.toList.take of ++ (zs ++ cur.toList.drop (of + zs.length))).toArray)) : wpList P ops Q (o :: rest) a w :=
  wpList_plain hgd fun K hK => by
    have hr := run_clear_at (P := P) w t e o.type z ht hv g of n c hn cur hg zs hzs hfit h1
    unfold Oper.wp execOp
    simp only [ho, resolve, invoke, builtin, Sem.run_bind, Sem.run_pure, Result.andThen_ok, List.map_toArray, List.map_cons, List.map_nil, hs, hr]
    exact hK _ _ h

def zMsg : List Value := [.int .i64 0, .int .i64 0, .int .i64 0, .slice none 0 0, .slice none 0 0]
theorem zMsg_eq : (Builtin.zeroCells (Value.cells (.agg #[.int .i64 0, .int .i64 0, .int .i64 0, .slice none 0 0, .slice none 0 0])) 1).toList = zMsg := by kernel_rfl
theorem zMsg_one : ∀ u ∈ zMsg, u.oneCell' = true := by
  intro u hu
  simp only [zMsg, List.mem_cons, List.not_mem_nil, or_false] at hu
  rcases hu with rfl | rfl | rfl | rfl | rfl <;> rfl

theorem erase_flat (es : List NEnt) (k : Nat) : (es.take k).flatMap nentCells ++ (es.drop (k + 1)).flatMap nentCells = (es.eraseIdx k).flatMap nentCells := by
  rw [List.eraseIdx_eq_take_drop_succ, List.flatMap_append]

set_option maxHeartbeats 8000000 in
set_option maxRecDepth 100000 in
theorem delete_any {B g n cap k : Nat} {es : List NEnt} (w : World) (hr : w.ownsRow B 65 5 (.slice (some ⟨g, 0, none⟩) n cap) n (es.flatMap nentCells)) (hl : es.length = n) (hk : k < n) (h1 : ∀ e ∈ es, e.e.vF.oneCell' = true ∧ e.e.vD.oneCell' = true) :
    Calls Try.prog 67 #[.slice (some ⟨g, 0, none⟩) n cap, .int .i64 k, .int .i64 ((k : Int) + 1)] w fun e w' => e = .returned (.slice (some ⟨g, 0, none⟩) (n - 1) cap) ∧ w.grownBy w' (some g) ∧ w'.ownsRow B 65 5 (.slice (some ⟨g, 0, none⟩) (n - 1) cap) (n - 1) ((es.eraseIdx k).flatMap nentCells) := by
  obtain ⟨cur, hB, hcur, hnc, hcm, hcs, hct⟩ : ∃ cur : Array Value, B ≤ g ∧ w.heap[g]? = some (.cells cur 65 (0, 0)) ∧ n ≤ cap ∧ cap ≤ maxLen ∧ cur.size = cap * 5 ∧ cur.toList.take (n * 5) = es.flatMap nentCells := by
    rcases hr.2 with ⟨h1, _⟩ | ⟨g', cap', cur, h1, h2, h3, h4, h5, h6, h7⟩
    · cases h1
    · cases h1; exact ⟨cur, h2, h3, h4, h5, h6, h7⟩
  unfold maxLen at hcm
  have b1 : (k : Int) + 1 ≤ (n : Int) := by omega
  have b2 : (n : Int) ≤ (cap : Int) := by omega
  have b3 : ((k : Int) == (k : Int) + 1) = false := by simp; omega
  obtain ⟨i0, hi0, hz0, hz1, hz2⟩ := info_parts (P := Try.prog) (e := 65) (z := .agg #[.int .i64 0, .int .i64 0, .int .i64 0, .slice none 0 0, .slice none 0 0]) (size := 5) (bytes := 72) (by kernel_rfl)
  have lk : ((es.take k).flatMap nentCells).length = k * 5 := by rw [flat_len' 5 nentCells (fun _ => rfl), List.length_take, hl, Nat.min_eq_left (by omega)]
  have ld : ((es.drop (k + 1)).flatMap nentCells).length = (n - (k + 1)) * 5 := by rw [flat_len' 5 nentCells (fun _ => rfl), List.length_drop, hl]
  have hsplit : es.flatMap nentCells = (es.take k).flatMap nentCells ++ ((es.drop k).flatMap nentCells) := by rw [← List.flatMap_append, List.take_append_drop]
  obtain ⟨A, hA, hsrc⟩ : ∃ A : Addr, (if cap = k + 1 then some (⟨g, 0, none⟩ : Addr) else some ⟨g, (k + 1) * 5, none⟩) = some A ∧ Hid (∀ j u, ((es.drop (k + 1)).flatMap nentCells)[j]? = some u → w.cell? (A.add j) = some u) := by
    by_cases h : cap = k + 1
    · refine ⟨⟨g, 0, none⟩, by rw [if_pos h], fun j u hu => ?_⟩
      have := (List.getElem?_eq_some_iff.1 hu).1
      rw [ld] at this
      omega
    · refine ⟨⟨g, (k + 1) * 5, none⟩, by rw [if_neg h], fun j u hu => ?_⟩
      have hj := (List.getElem?_eq_some_iff.1 hu).1
      rw [ld] at hj
      rw [Addr.add_lit, hr.cellAt ((k + 1) * 5 + j) (by omega)]
      have e1 : es.flatMap nentCells = (es.take (k + 1)).flatMap nentCells ++ (es.drop (k + 1)).flatMap nentCells := by rw [← List.flatMap_append, List.take_append_drop]
      have l1 : ((es.take (k + 1)).flatMap nentCells).length = (k + 1) * 5 := by rw [flat_len' 5 nentCells (fun _ => rfl), List.length_take, hl, Nat.min_eq_left (by omega)]
      rw [e1, List.getElem?_append_right (by omega), l1, Nat.add_sub_cancel_left]
      exact hu
  have hrk : w.ownsRow B 65 5 (.slice (some ⟨g, 0, none⟩) k cap) k ((es.take k).flatMap nentCells) := by
    refine ⟨lk, .inr ⟨g, cap, cur, rfl, hB, hcur, by omega, by unfold maxLen; omega, hcs, ?_⟩⟩
    have e1 : cur.toList.take (k * 5) = (cur.toList.take (n * 5)).take (k * 5) := by rw [List.take_take, Nat.min_eq_left (by omega)]
    rw [e1, hct, hsplit, ← lk, List.take_left]
  have Hrk : Hid (∀ Y, Below w.heap.size w Y → Y.ownsRow B 65 5 (.slice (some ⟨g, 0, none⟩) k cap) k ((es.take k).flatMap nentCells) ∧ (∀ j u, ((es.drop (k + 1)).flatMap nentCells)[j]? = some u → Y.cell? (A.add j) = some u)) := fun Y hY => ⟨hrk.kept (grown_of_below hY Option.none) own_self, fun j u hu => cell_later hY (hsrc.out j u hu)⟩
  have Hct : Hid (cur.toList.take (n * 5) = es.flatMap nentCells) := hct
  have Hld : Hid (((es.drop (k + 1)).flatMap nentCells).length = (n - (k + 1)) * 5) := ld
  have H1 : Hid (∀ u ∈ (es.drop (k + 1)).flatMap nentCells, u.oneCell' = true) := fun u hu => by
    obtain ⟨q, hq, hu⟩ := List.mem_flatMap.1 hu
    have h2 := h1 q (List.mem_of_mem_drop hq)
    simp only [nentCells, List.mem_cons, List.not_mem_nil, or_false] at hu
    rcases hu with rfl | rfl | rfl | rfl | rfl
    · rfl
    · rfl
    · rfl
    · exact h2.1
    · exact h2.2
  clear h1
  clear hr hct hrk hsrc hsplit lk ld
  go_enter Try.func67, Try.ntmps67
  go_upto_region 5 with fail
  refine wp_region_tail 6 (by kernel_rfl) (by kernel_rfl) ?_
  intro hne
  simp only [List.take_succ_cons, List.take_zero, List.drop_succ_cons, List.drop_zero]
  repeat (go_big_quiet_step (fail))
  refine wpQuiet_nil ?_
  intro Y hY
  have hY := lat_out hY
  obtain ⟨hrY, hsY⟩ := Hrk.out Y hY
  have HgY : Hid (w.grownBy Y (some g)) := grown_of_below hY _
  have hkm : k + (n - (k + 1)) = n - 1 := by omega
  have hcn : ¬ cap = n - 1 := by omega
  clear hY hne hA Hrk
  go_wp2_with (at_builtin; refine wpList_append_own_spare _ rfl _ _ 27 rfl B 65 i0 5 Try.underlying27 hi0 hz1 g k cap _ rfl hrY A (n - (k + 1)) (cap - (k + 1)) ((es.drop (k + 1)).flatMap nentCells) rfl Hld.out hsY H1.out (by omega) ?_; intro w3 hown3 hgrow3; rw [hkm] at hown3 ⊢; refine Hid.out ?_)
  rw [erase_flat] at hown3
  obtain ⟨cur3, hg3, hs3, ht3⟩ : ∃ cur3 : Array Value, w3.heap[g]? = some (.cells cur3 65 (0, 0)) ∧ cur3.size = cap * 5 ∧ cur3.toList.take ((n - 1) * 5) = (es.eraseIdx k).flatMap nentCells := by
    rcases hown3.2 with ⟨h1, _⟩ | ⟨g', cap', cur, h1, h2, h3, h4, h5, h6, h7⟩
    · cases h1
    · cases h1; exact ⟨cur, h3, h6, h7⟩
  have hel := hown3.1
  have HG3 : Hid (w.grownBy w3 (some g)) := grown_trans HgY.out hgrow3
  have hn1 : n - (n - 1) = 1 := by omega
  have hn2 : ((n : Int) - 1).toNat = n - 1 := by omega
  have hfit : (n - 1) * 5 + zMsg.length ≤ cur3.size := by rw [hs3]; show (n - 1) * 5 + 5 ≤ cap * 5; omega
  have HEnd : Hid (w.grownBy (w3.setRow g (cur3.toList.take ((n - 1) * 5) ++ (zMsg ++ cur3.toList.drop ((n - 1) * 5 + zMsg.length))).toArray) (some g) ∧ (w3.setRow g (cur3.toList.take ((n - 1) * 5) ++ (zMsg ++ cur3.toList.drop ((n - 1) * 5 + zMsg.length))).toArray).ownsRow B 65 5 (.slice (some ⟨g, 0, none⟩) (n - 1) cap) (n - 1) ((es.eraseIdx k).flatMap nentCells)) := by
    have lt3 : (cur3.toList.take ((n - 1) * 5)).length = (n - 1) * 5 := by rw [ht3]; exact hel
    have lz : zMsg.length = 5 := rfl
    refine ⟨grown_trans HG3.out ⟨rfl, rfl, rfl, by simp, fun i hi hne => setRow_other _ _ _ _ (fun e => hne (by rw [e]))⟩, hel, .inr ⟨g, cap, _, rfl, hB, setRow_heap _ _ _ _ _ _ hg3, by omega, by unfold maxLen; omega, ?_, ?_⟩⟩
    · simp only [List.size_toArray, List.length_append, lt3, lz, List.length_drop, Array.length_toList]
      omega
    · rw [List.take_append_of_le_length (by rw [lt3]; exact Nat.le_refl _), List.take_of_length_le (by rw [lt3]; exact Nat.le_refl _)]; exact ht3
  clear hown3 hgrow3 hrY hsY hel ht3
  refine Lib.hid ?_
  go_upto_region 6 with fail
  go_wp2_with (refine wpList_clear rfl _ 27 65 rfl (.agg #[.int .i64 0, .int .i64 0, .int .i64 0, .slice none 0 0, .slice none 0 0]) Try.underlying27 (fun w => by kernel_rfl) g ((n - 1) * 5) 1 (cap - (n - 1)) rfl (by decide) cur3 hg3 zMsg zMsg_eq hfit zMsg_one ?_; refine Hid.out ?_)
  generalize w3.setRow g (cur3.toList.take ((n - 1) * 5) ++ (zMsg ++ cur3.toList.drop ((n - 1) * 5 + zMsg.length))).toArray = W9 at *
  refine Lib.hid ?_
  go_wp2_with fail
  go_ret
  exact ⟨rfl, HEnd.out.1, HEnd.out.2⟩

end Go.Proofs.Ytmlojlbmfceogaa

namespace Go.Proofs.Ytmlojlbmfceogaa
open Go Go.RowKit
set_option linter.unusedVariables false

attribute [local go_sem] lat_cell

theorem BoolsAt.own {W : World} {B c : Nat} {a : Option Addr} {l : List Bool} (h : W.ownsRow B 4 1 (.slice a l.length c) l.length (l.flatMap encB)) (k : Nat) (hk : k < l.length) : ∃ g, a = some ⟨g, 0, none⟩ ∧ W.cell? ⟨g, k, none⟩ = some (.bool (l.getD k false)) ∧ W.frozen? ⟨g, k, none⟩ = false ∧ g < W.heap.size := by
  obtain ⟨g, rfl⟩ := own_blk h (by omega)
  obtain ⟨b, off, e, h1, h2⟩ := (row_bools h).cell k hk
  cases e
  rw [Nat.zero_add] at h1
  exact ⟨g, rfl, h1, h.frozenAt k, h2⟩
theorem GrantsAt.own {W : World} {B c : Nat} {a : Option Addr} {l : List M.Grt} (h : W.ownsRow B 78 2 (.slice a l.length c) l.length (l.flatMap encGrt)) (k : Nat) (hk : k < l.length) : ∃ g u1 u2, a = some ⟨g, 0, none⟩ ∧ W.cell? ⟨g, k * 2, none⟩ = some u1 ∧ W.cell? ⟨g, k * 2 + 1, none⟩ = some u2 ∧ (∀ i, W.frozen? ⟨g, i, none⟩ = false) ∧ g < W.heap.size := by
  obtain ⟨g, rfl⟩ := own_blk h (by omega)
  obtain ⟨b, off, e, h1, h2⟩ := (row_grants h).cells k hk
  cases e
  rw [Nat.zero_add] at h1 h2
  exact ⟨g, _, _, rfl, h1, h2, h.frozenAt, World.block_lt_of_cell? _ _ h1⟩
theorem gots_own {W : World} {B c n : Nat} {a : Option Addr} {es : List PEnt} (h : W.ownsRow B 44 2 (.slice a n c) n (es.flatMap pentCells)) (hl : es.length = n) (k : Nat) (hk : k < n) : ∃ g u1 u2, a = some ⟨g, 0, none⟩ ∧ W.cell? ⟨g, k * 2, none⟩ = some u1 ∧ W.cell? ⟨g, k * 2 + 1, none⟩ = some u2 ∧ (∀ i, W.frozen? ⟨g, i, none⟩ = false) ∧ g < W.heap.size := by
  obtain ⟨g, rfl⟩ := own_blk h (by omega)
  have h1 := h.cellAt (k * 2) (by omega)
  have h2 := h.cellAt (k * 2 + 1) (by omega)
  have e0 := flat_get 2 pentCells (fun _ => rfl) es k 0 (by decide)
  have e1 := flat_get 2 pentCells (fun _ => rfl) es k 1 (by decide)
  rw [Nat.add_zero, getElem?_getD es pent0 k (by omega)] at e0
  rw [getElem?_getD es pent0 k (by omega)] at e1
  rw [e0] at h1
  rw [e1] at h2
  exact ⟨g, _, _, rfl, h1, h2, h.frozenAt, World.block_lt_of_cell? _ _ h1⟩

/-- a result that is being taken in -/
structure ArI (B b nz : Nat) (w W : World) (f : M.Farm) (x : Fd) (o : Fo) (msg : Array Value) (e : PEnt) : Prop where
  own : FmO B W b f x o
  part : POwn W B e
  msg : W.heap[nz]? = some (.cells msg 65 (0, 0))
  below : Below B w W
  keep : KeepE w W
  base : B ≤ W.heap.size
theorem ArI.later {B b nz : Nat} {w W X : World} {f : M.Farm} {x : Fd} {o : Fo} {msg : Array Value} {e : PEnt} (h : ArI B b nz w W f x o msg e) (hb : Below W.heap.size W X) : ArI B b nz w X f x o msg e :=
  ⟨h.own.later hb, h.part.later hb, (hb.block _ (Array.getElem?_eq_some_iff.1 h.msg).1).trans h.msg, h.below.trans (hb.mono h.base), h.keep.trans (keepE_below hb), Nat.le_trans h.base hb.size⟩
theorem row_typed {W : World} {B g n c k : Nat} {e : TypeId} {xs : List Value} (h : W.ownsRow B e k (.slice (some ⟨g, 0, none⟩) n c) n xs) : ∃ cs, W.heap[g]? = some (.cells cs e (0, 0)) := by
  rcases h.2 with ⟨h1, _⟩ | ⟨g', cap, cur, h1, hb, h2, _⟩
  · cases h1
  · cases h1; exact ⟨cur, h2⟩
theorem ArI.done {B b nz : Nat} {w W : World} {f : M.Farm} {x : Fd} {o : Fo} {msg : Array Value} {e : PEnt} (h : ArI B b nz w W f x o msg e) (g n : Nat) (hg : x.d = some ⟨g, 0, none⟩) (hn : n < f.done.length) : ArI B b nz w (W.setCell ⟨g, n, none⟩ (.bool true)) { f with done := f.done.set n true } x o msg e := by
  obtain ⟨h1, h2, h3⟩ := h.own.setDone g n hg hn true
  have hr := h.own.rowD
  rw [hg] at hr
  obtain ⟨cs, hcs⟩ := row_typed hr
  have wr : Wr W (W.setCell ⟨g, n, none⟩ (.bool true)) 4 := ⟨g, cs, hcs, grown_set _ _ _ _⟩
  exact ⟨h1, wr.pown h.part (by decide) (by decide) (by decide) (by decide), wr.block h.msg (by decide), h.below.trans h2, h.keep.trans h3, by simp; exact h.base⟩
theorem ArI.got {B b nz : Nat} {w W : World} {f : M.Farm} {x : Fd} {o : Fo} {msg : Array Value} {e : PEnt} (h : ArI B b nz w W f x o msg e) (g n : Nat) (hg : x.h = some ⟨g, 0, none⟩) (hn : n < f.got.length) : ∃ o', ArI B b nz w ((W.setCell ⟨g, n * 2, none⟩ e.vF).setCell ⟨g, n * 2 + 1, none⟩ e.vD) { f with got := f.got.set n e.p } x o' msg e := by
  obtain ⟨o', h1, h2, h3⟩ := h.own.setGot g n hg hn e h.part
  have hr := h.own.rowH
  rw [hg] at hr
  obtain ⟨cs, hcs⟩ := row_typed hr
  have wr : Wr W ((W.setCell ⟨g, n * 2, none⟩ e.vF).setCell ⟨g, n * 2 + 1, none⟩ e.vD) 44 := ⟨g, cs, hcs, grown_trans (grown_set _ _ _ _) (grown_set _ _ _ _)⟩
  exact ⟨o', h1, wr.pown h.part (by decide) (by decide) (by decide) (by decide), wr.block h.msg (by decide), h.below.trans h2, h.keep.trans h3, by simp; exact h.base⟩

set_option maxHeartbeats 16000000 in
set_option maxRecDepth 100000 in
theorem arrive_any {B b : Nat} {f : M.Farm} {x : Fd} {o : Fo} (w : World) (hO : FmO B w b f x o) (hB : B ≤ w.heap.size) (hok : M.FarmOk f) (kd : Int) (wk n : Nat) (hwk : wk < f.work.length) (hn : n < f.plan.length) (q : M.Prt) (x1 x2 : Option Addr) (y1 y2 : Nat)
    (hq : POwn w B ⟨q, .slice x1 q.frags.length y1, .slice x2 q.defs.length y2⟩) :
    Calls Try.prog 68 #[.pointer (some ⟨b, 0, none⟩), .agg #[.int .i64 kd, .int .i64 wk, .int .i64 n, .slice x1 q.frags.length y1, .slice x2 q.defs.length y2]] w fun e w' => e = .returned (.tuple #[]) ∧ Below B w w' ∧ KeepE w w' ∧ ∃ x' o', FmO B w' b (M.arriveM f ⟨kd, wk, n, q⟩) x' o' := by
  have hA := (Below.refl w.heap.size w).alloc (Nat.le_refl _) (.cells #[.int .i64 kd, .int .i64 wk, .int .i64 n, .slice x1 q.frags.length y1, .slice x2 q.defs.length y2] 65)
  have HA : Hid (Below w.heap.size w (w.alloc (.cells #[.int .i64 kd, .int .i64 wk, .int .i64 n, .slice x1 q.frags.length y1, .slice x2 q.defs.length y2] 65))) := hA
  have h0 := heap_alloc_new w (.cells #[.int .i64 kd, .int .i64 wk, .int .i64 n, .slice x1 q.frags.length y1, .slice x2 q.defs.length y2] 65)
  have hO1 := hO.later hA
  have hq1 := hq.later hA
  have hB1 := Nat.le_trans hB hA.size
  have HH : Hid (M.arriveM f ⟨kd, wk, n, q⟩ = if kd = 1 then (if f.work.getD wk 0 = -1 then { f with work := f.work.set wk n } else f) else if kd = 2 then (if f.done.getD n false = false then { f with done := f.done.set n true, got := f.got.set n q, grants := f.grants.set n M.grt0 } else f) else f) := rfl
  generalize M.arriveM f ⟨kd, wk, n, q⟩ = R at *
  clear hO hq hA
  go_enter Try.func68, Try.ntmps68
  go_upto_region 1 with fail
  obtain ⟨nz, hnz⟩ : ∃ nz, nz = w.heap.size := ⟨_, rfl⟩
  rw [← hnz] at h0 ⊢
  clear hnz
  generalize w.alloc (.cells #[.int .i64 kd, .int .i64 wk, .int .i64 n, .slice x1 q.frags.length y1, .slice x2 q.defs.length y2] 65) = Z at *
  have m0 : Z.cell? ⟨nz, 0, none⟩ = some (.int .i64 kd) := cellB h0 0
  have m1 : Z.cell? ⟨nz, 1, none⟩ = some (.int .i64 wk) := cellB h0 1
  have m2 : Z.cell? ⟨nz, 2, none⟩ = some (.int .i64 n) := cellB h0 2
  have lz : nz < Z.heap.size := (Array.getElem?_eq_some_iff.1 h0).1
  have lb : b < Z.heap.size := (Array.getElem?_eq_some_iff.1 hO1.blk).1
  obtain ⟨gw, hgw, ew, fw, lgw⟩ := IntsAt.own hO1.rowW wk hwk
  have hdl := hok.done
  have hgl := hok.got
  have hrl := hok.grants
  obtain ⟨gd, hgd, ed, fd, lgd⟩ := BoolsAt.own hO1.rowD n (by omega)
  have c6 : Z.cell? ⟨b, 6, none⟩ = some (.slice (some ⟨gw, 0, none⟩) f.work.length x.kc) := by rw [← hgw]; exact cellB hO1.blk 6
  have c3 : Z.cell? ⟨b, 3, none⟩ = some (.slice (some ⟨gd, 0, none⟩) f.done.length x.dc) := by rw [← hgd]; exact cellB hO1.blk 3
  have hwI : (wk : Int) < (f.work.length : Int) := by omega
  have hnI : (n : Int) < (f.done.length : Int) := by omega
  have HdL : Hid (f.done.length = f.plan.length ∧ f.got.length = f.plan.length ∧ f.grants.length = f.plan.length) := ⟨hdl, hgl, hrl⟩
  clear hdl hgl hrl
  have HO1 : Hid (FmO B Z b f x o) := hO1
  have Hq1 : Hid (POwn Z B ⟨q, .slice x1 q.frags.length y1, .slice x2 q.defs.length y2⟩) := hq1
  have Hh0 : Hid (Z.heap[nz]? = some (.cells #[.int .i64 kd, .int .i64 wk, .int .i64 n, .slice x1 q.frags.length y1, .slice x2 q.defs.length y2] 65 (0, 0))) := h0
  have HEnd : Hid (∀ Y, Below Z.heap.size Z Y → Below B w Y ∧ KeepE w Y ∧ FmO B Y b f x o) := fun Y hY => ⟨(HA.out.mono hB).trans (hY.mono hB1), (keepE_below HA.out).trans (keepE_below hY), HO1.out.later hY⟩
  clear hO1 hq1 h0
  generalize f.work.getD wk 0 = wv at *
  generalize f.done.getD n false = dv at *
  by_cases k1 : kd = 1
  · have k1b : (kd == 1) = true := by simpa using k1
    have k2b : (kd == 2) = false := by simp; omega
    by_cases hwv : wv = -1
    · have hwvb : (wv == -1) = true := by simpa using hwv
      have HR : Hid (R = { f with work := f.work.set wk n }) := by rw [Hid, HH.out, if_pos k1, if_pos hwv]
      clear HH k1 hwv c3 ed fd hgd
      go_quiet (fail)
      go_upto_region 2 with fail
      have hq : Below Z.heap.size Z (Z.drewN nq) := below_drewN' _ _ nq
      have HOq : Hid (FmO B (Z.drewN nq) b f x o) := HO1.out.later hq
      have HBq : Hid (Below B w (Z.drewN nq) ∧ KeepE w (Z.drewN nq)) := ⟨(HEnd.out _ hq).1, (HEnd.out _ hq).2.1⟩
      replace m1 := cell_later hq m1
      replace m2 := cell_later hq m2
      replace c6 := cell_later hq c6
      replace ew := cell_later hq ew
      have fw' : (Z.drewN nq).frozen? ⟨gw, wk, none⟩ = false := (hq.frozen (p := ⟨gw, wk, none⟩) lgw).trans fw
      have hBq := Nat.le_trans hB1 hq.size
      replace lgw := Nat.lt_of_lt_of_le lgw hq.size
      replace lz := Nat.lt_of_lt_of_le lz hq.size
      replace lb := Nat.lt_of_lt_of_le lb hq.size
      clear m0 fw hq HO1 Hq1 Hh0 HEnd
      generalize Z.drewN nq = Zq at *
      refine wp_region_tail 8 (by kernel_rfl) (by kernel_rfl) ?_
      intro hne
      simp only [List.take_succ_cons, List.take_zero, List.drop_succ_cons, List.drop_zero]
      repeat (go_big_quiet_step (fail))
      refine wpQuiet_nil ?_
      intro Y hY
      have hY := lat_out hY
      have e0' := cell_later hY ew
      have fz' : Y.frozen? ⟨gw, wk, none⟩ = false := (hY.frozen (p := ⟨gw, wk, none⟩) lgw).trans fw'
      have lgY := Nat.lt_of_lt_of_le lgw hY.size
      obtain ⟨hS1, hS2, hS3⟩ := (HOq.out.later hY).setWork gw wk hgw hwk n
      have HS : Hid (FmO B (Y.setCell ⟨gw, wk, none⟩ (.int .i64 n)) b { f with work := f.work.set wk n } x o ∧ Below B w (Y.setCell ⟨gw, wk, none⟩ (.int .i64 n)) ∧ KeepE w (Y.setCell ⟨gw, wk, none⟩ (.int .i64 n))) := ⟨hS1, (HBq.out.1.trans (hY.mono hBq)).trans hS2, (HBq.out.2.trans (keepE_below hY)).trans hS3⟩
      clear hne hY hS1 hS2 hS3 ew fw' m1 m2 c6 hgw
      go_wp2_with fail
      refine bodyPost_end (v := .tuple #[]) (by simp [results, Try.results68, go_sem]) rfl ?_
      exact ⟨rfl, HS.out.2.1, HS.out.2.2, x, o, by rw [HR.out]; exact HS.out.1⟩
    · have hwvb : (wv == -1) = false := by simpa using hwv
      have HR : Hid (R = f) := by rw [Hid, HH.out, if_pos k1, if_neg hwv]
      clear HH k1 hwv ed fd hgd
      go_quiet (fail)
      go_upto_region 3 with fail
      have hq : Below Z.heap.size Z (Z.drewN nq) := below_drewN' _ _ nq
      replace m0 := cell_later hq m0
      replace c3 := cell_later hq c3
      have HEq : Hid (∀ Y, Below (Z.drewN nq).heap.size (Z.drewN nq) Y → Below B w Y ∧ KeepE w Y ∧ FmO B Y b f x o) := fun Y hY => HEnd.out Y (hq.trans (hY.mono hq.size))
      replace lz := Nat.lt_of_lt_of_le lz hq.size
      replace lb := Nat.lt_of_lt_of_le lb hq.size
      clear m1 m2 c6 ew fw lgw hgw HO1 Hq1 Hh0 HEnd hq
      generalize Z.drewN nq = Zq at *
      go_quiet (fail)
      have hq : Below Zq.heap.size Zq (Zq.drewN nq) := below_drewN' _ _ nq
      obtain ⟨j1, j2, j3⟩ := HEq.out _ hq
      have J : Hid (Below B w (Zq.drewN nq) ∧ KeepE w (Zq.drewN nq) ∧ FmO B (Zq.drewN nq) b f x o) := ⟨j1, j2, j3⟩
      clear j1 j2 j3 hq
      go_wp2_with fail
      refine bodyPost_end (v := .tuple #[]) (by simp [results, Try.results68, go_sem]) rfl ?_
      exact ⟨rfl, J.out.1, J.out.2.1, x, o, by rw [HR.out]; exact J.out.2.2⟩
  · have k1b : (kd == 1) = false := by simpa using k1
    clear c6 ew fw lgw hgw
    go_quiet (fail)
    go_upto_region 3 with fail
    have hq : Below Z.heap.size Z (Z.drewN nq) := below_drewN' _ _ nq
    replace m0 := cell_later hq m0
    replace m2 := cell_later hq m2
    replace c3 := cell_later hq c3
    replace ed := cell_later hq ed
    have fd' : (Z.drewN nq).frozen? ⟨gd, n, none⟩ = false := (hq.frozen (p := ⟨gd, n, none⟩) lgd).trans fd
    have HEq : Hid (∀ Y, Below (Z.drewN nq).heap.size (Z.drewN nq) Y → Below B w Y ∧ KeepE w Y ∧ FmO B Y b f x o) := fun Y hY => HEnd.out Y (hq.trans (hY.mono hq.size))
    have HOq : Hid (FmO B (Z.drewN nq) b f x o) := HO1.out.later hq
    have Hqq : Hid (POwn (Z.drewN nq) B ⟨q, .slice x1 q.frags.length y1, .slice x2 q.defs.length y2⟩) := Hq1.out.later hq
    have Hhq : Hid ((Z.drewN nq).heap[nz]? = some (.cells #[.int .i64 kd, .int .i64 wk, .int .i64 n, .slice x1 q.frags.length y1, .slice x2 q.defs.length y2] 65 (0, 0))) := (hq.block _ lz).trans Hh0.out
    have hBq := Nat.le_trans hB1 hq.size
    replace lz := Nat.lt_of_lt_of_le lz hq.size
    replace lb := Nat.lt_of_lt_of_le lb hq.size
    replace lgd := Nat.lt_of_lt_of_le lgd hq.size
    clear m1 fd HO1 Hq1 Hh0 HEnd hq
    generalize Z.drewN nq = Zq at *
    by_cases k2 : kd = 2
    · have k2b : (kd == 2) = true := by simpa using k2
      cases dv
      · have HR : Hid (R = { f with done := f.done.set n true, got := f.got.set n q, grants := f.grants.set n M.grt0 }) := by rw [Hid, HH.out, if_neg k1, if_pos k2, if_pos rfl]
        clear HH k1 k2
        go_quiet (fail)
        go_upto_region 4 with fail
        have hq : Below Zq.heap.size Zq (Zq.drewN nq) := below_drewN' _ _ nq
        obtain ⟨j1, j2, j3⟩ := HEq.out _ hq
        have HI : Hid (ArI B b nz w (Zq.drewN nq) f x o #[.int .i64 kd, .int .i64 wk, .int .i64 n, .slice x1 q.frags.length y1, .slice x2 q.defs.length y2] ⟨q, .slice x1 q.frags.length y1, .slice x2 q.defs.length y2⟩) := ⟨j3, Hqq.out.later hq, (hq.block _ lz).trans Hhq.out, j1, j2, Nat.le_trans hBq hq.size⟩
        replace m2 := cell_later hq m2
        replace c3 := cell_later hq c3
        replace ed := cell_later hq ed
        have fd2 : (Zq.drewN nq).frozen? ⟨gd, n, none⟩ = false := (hq.frozen (p := ⟨gd, n, none⟩) lgd).trans fd'
        replace lz := Nat.lt_of_lt_of_le lz hq.size
        replace lb := Nat.lt_of_lt_of_le lb hq.size
        replace lgd := Nat.lt_of_lt_of_le lgd hq.size
        clear j1 j2 j3 hq m0 fd' HEq HOq Hqq Hhq
        generalize Zq.drewN nq = Z4 at *
        refine wp_region_tail 6 (by kernel_rfl) (by kernel_rfl) ?_
        intro hne
        simp only [List.take_succ_cons, List.take_zero, List.drop_succ_cons, List.drop_zero]
        repeat (go_big_quiet_step (fail))
        refine wpQuiet_nil ?_
        intro Y hY
        have hY := lat_out hY
        have e0' := cell_later hY ed
        have fz' : Y.frozen? ⟨gd, n, none⟩ = false := (hY.frozen (p := ⟨gd, n, none⟩) lgd).trans fd2
        have lgY := Nat.lt_of_lt_of_le lgd hY.size
        have HI2 : Hid (ArI B b nz w (Y.setCell ⟨gd, n, none⟩ (.bool true)) { f with done := f.done.set n true } x o #[.int .i64 kd, .int .i64 wk, .int .i64 n, .slice x1 q.frags.length y1, .slice x2 q.defs.length y2] ⟨q, .slice x1 q.frags.length y1, .slice x2 q.defs.length y2⟩) := (HI.out.later hY).done gd n hgd (by have := HdL.out; omega)
        clear hne hY ed fd2 m2 c3 hgd HI
        go_upto_region 5 with fail
        clear e0' fz' lgY
        generalize Y.setCell ⟨gd, n, none⟩ (.bool true) = Z5 at *
        obtain ⟨gh, t1, t2, hgh, eh0, eh1, fh, lgh⟩ := gots_own HI2.out.own.rowH (map_len HI2.out.own.mapH).symm n (by have := HdL.out; show n < f.got.length; omega)
        have c4 : Z5.cell? ⟨b, 4, none⟩ = some (.slice (some ⟨gh, 0, none⟩) f.got.length x.hc) := by rw [← hgh]; exact cellB HI2.out.own.blk 4
        have m2 : Z5.cell? ⟨nz, 2, none⟩ = some (.int .i64 n) := cellB HI2.out.msg 2
        have m3 : Z5.cell? ⟨nz, 3, none⟩ = some (.slice x1 q.frags.length y1) := cellB HI2.out.msg 3
        have m4 : Z5.cell? ⟨nz, 4, none⟩ = some (.slice x2 q.defs.length y2) := cellB HI2.out.msg 4
        have lz5 : nz < Z5.heap.size := (Array.getElem?_eq_some_iff.1 HI2.out.msg).1
        have lb5 : b < Z5.heap.size := (Array.getElem?_eq_some_iff.1 HI2.out.own.blk).1
        have hnG : (n : Int) < (f.got.length : Int) := by have := HdL.out; omega
        have Hfh : Hid (∀ i, Z5.frozen? ⟨gh, i, none⟩ = false) := fh
        clear fh
        refine wp_region_tail 8 (by kernel_rfl) (by kernel_rfl) ?_
        intro hne
        simp only [List.take_succ_cons, List.take_zero, List.drop_succ_cons, List.drop_zero]
        repeat (go_big_quiet_step (fail))
        refine wpQuiet_nil ?_
        intro Y5 hY
        have hY := lat_out hY
        have e0' := cell_later hY eh0
        have e1' := cell_later hY eh1
        have fz' : Y5.frozen? ⟨gh, n * 2, none⟩ = false := (hY.frozen (p := ⟨gh, n * 2, none⟩) lgh).trans (Hfh.out _)
        have fz1' : Y5.frozen? ⟨gh, n * 2 + 1, none⟩ = false := (hY.frozen (p := ⟨gh, n * 2 + 1, none⟩) lgh).trans (Hfh.out _)
        have lgY := Nat.lt_of_lt_of_le lgh hY.size
        obtain ⟨o6, hI6⟩ := (HI2.out.later hY).got gh n hgh (by have := HdL.out; show n < f.got.length; omega)
        have HI6 : Hid (ArI B b nz w ((Y5.setCell ⟨gh, n * 2, none⟩ (.slice x1 q.frags.length y1)).setCell ⟨gh, n * 2 + 1, none⟩ (.slice x2 q.defs.length y2)) { f with done := f.done.set n true, got := f.got.set n q } x o6 #[.int .i64 kd, .int .i64 wk, .int .i64 n, .slice x1 q.frags.length y1, .slice x2 q.defs.length y2] ⟨q, .slice x1 q.frags.length y1, .slice x2 q.defs.length y2⟩) := hI6
        clear hne hY eh0 eh1 m2 m3 m4 c4 hgh HI2 hI6 Hfh
        go_upto_region 6 with fail
        clear e0' e1' fz' fz1' lgY
        generalize (Y5.setCell ⟨gh, n * 2, none⟩ (.slice x1 q.frags.length y1)).setCell ⟨gh, n * 2 + 1, none⟩ (.slice x2 q.defs.length y2) = Z6 at *
        obtain ⟨gg, t3, t4, hgg, eg0, eg1, fg, lgg⟩ := GrantsAt.own HI6.out.own.rowG n (by have := HdL.out; show n < f.grants.length; omega)
        have c5 : Z6.cell? ⟨b, 5, none⟩ = some (.slice (some ⟨gg, 0, none⟩) f.grants.length x.gc) := by rw [← hgg]; exact cellB HI6.out.own.blk 5
        have m2 : Z6.cell? ⟨nz, 2, none⟩ = some (.int .i64 n) := cellB HI6.out.msg 2
        have lz6 : nz < Z6.heap.size := (Array.getElem?_eq_some_iff.1 HI6.out.msg).1
        have lb6 : b < Z6.heap.size := (Array.getElem?_eq_some_iff.1 HI6.out.own.blk).1
        have hnR : (n : Int) < (f.grants.length : Int) := by have := HdL.out; omega
        have Hfg : Hid (∀ i, Z6.frozen? ⟨gg, i, none⟩ = false) := fg
        clear fg
        refine wp_region_tail 7 (by kernel_rfl) (by kernel_rfl) ?_
        intro hne
        simp only [List.take_succ_cons, List.take_zero, List.drop_succ_cons, List.drop_zero]
        repeat (go_big_quiet_step (fail))
        refine wpQuiet_nil ?_
        intro Y6 hY
        have hY := lat_out hY
        have e0' := cell_later hY eg0
        have e1' := cell_later hY eg1
        have fz' : Y6.frozen? ⟨gg, n * 2, none⟩ = false := (hY.frozen (p := ⟨gg, n * 2, none⟩) lgg).trans (Hfg.out _)
        have fz1' : Y6.frozen? ⟨gg, n * 2 + 1, none⟩ = false := (hY.frozen (p := ⟨gg, n * 2 + 1, none⟩) lgg).trans (Hfg.out _)
        have lgY := Nat.lt_of_lt_of_le lgg hY.size
        have hI7 := HI6.out.later hY
        obtain ⟨g1, g2, g3⟩ := hI7.own.setGrant gg n hgg (by have := HdL.out; show n < f.grants.length; omega) 0 0
        have J : Hid (Below B w ((Y6.setCell ⟨gg, n * 2, none⟩ (.int .i64 0)).setCell ⟨gg, n * 2 + 1, none⟩ (.int .i64 0)) ∧ KeepE w ((Y6.setCell ⟨gg, n * 2, none⟩ (.int .i64 0)).setCell ⟨gg, n * 2 + 1, none⟩ (.int .i64 0)) ∧ FmO B ((Y6.setCell ⟨gg, n * 2, none⟩ (.int .i64 0)).setCell ⟨gg, n * 2 + 1, none⟩ (.int .i64 0)) b { f with done := f.done.set n true, got := f.got.set n q, grants := f.grants.set n M.grt0 } x o6) := ⟨hI7.below.trans g2, hI7.keep.trans g3, g1⟩
        clear hne hY eg0 eg1 m2 c5 hgg HI6 hI7 g1 g2 g3 Hfg
        go_wp2_with fail
        refine bodyPost_end (v := .tuple #[]) (by simp [results, Try.results68, go_sem]) rfl ?_
        exact ⟨rfl, J.out.1, J.out.2.1, x, o6, by rw [HR.out]; exact J.out.2.2⟩
      · have HR : Hid (R = f) := by rw [Hid, HH.out, if_neg k1, if_pos k2, if_neg (by decide)]
        clear HH k1 k2
        go_quiet (fail)
        have hq : Below Zq.heap.size Zq (Zq.drewN nq) := below_drewN' _ _ nq
        obtain ⟨j1, j2, j3⟩ := HEq.out _ hq
        have J : Hid (Below B w (Zq.drewN nq) ∧ KeepE w (Zq.drewN nq) ∧ FmO B (Zq.drewN nq) b f x o) := ⟨j1, j2, j3⟩
        clear j1 j2 j3 hq
        go_wp2_with fail
        refine bodyPost_end (v := .tuple #[]) (by simp [results, Try.results68, go_sem]) rfl ?_
        exact ⟨rfl, J.out.1, J.out.2.1, x, o, by rw [HR.out]; exact J.out.2.2⟩
    · have k2b : (kd == 2) = false := by simpa using k2
      have HR : Hid (R = f) := by rw [Hid, HH.out, if_neg k1, if_neg k2]
      clear HH k1 k2
      go_quiet (fail)
      have hq : Below Zq.heap.size Zq (Zq.drewN nq) := below_drewN' _ _ nq
      obtain ⟨j1, j2, j3⟩ := HEq.out _ hq
      have J : Hid (Below B w (Zq.drewN nq) ∧ KeepE w (Zq.drewN nq) ∧ FmO B (Zq.drewN nq) b f x o) := ⟨j1, j2, j3⟩
      clear j1 j2 j3 hq
      go_wp2_with fail
      refine bodyPost_end (v := .tuple #[]) (by simp [results, Try.results68, go_sem]) rfl ?_
      exact ⟨rfl, J.out.1, J.out.2.1, x, o, by rw [HR.out]; exact J.out.2.2⟩

end Go.Proofs.Ytmlojlbmfceogaa
