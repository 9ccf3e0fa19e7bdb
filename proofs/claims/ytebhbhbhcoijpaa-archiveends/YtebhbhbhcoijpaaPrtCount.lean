/-
  The contract of part.count.
-/
import Derived.Test.YtebhbhbhcoijpaaPrtGroups
import Derived.Deep.WholeRow
namespace Go.Proofs.Ytebhbhbhcoijpaa
open Go.RowKit
set_option linter.unusedVariables false

/-- an array of sixty numbers -/
structure Nums (c : Array Value) (tq : List Int) : Prop where
  size : c.size = 60
  at' : ∀ i, i < 60 → c[i]? = some (.int .i64 (tq.getD i 0))

theorem Nums.one {c : Array Value} {tq : List Int} (h : Nums c tq) : c.all (·.oneCell') = true := by
  rw [Array.all_eq_true]
  intro i hi
  have h2 := h.at' i (by rw [← h.size]; exact hi)
  rw [Array.getElem?_eq_getElem hi] at h2
  rw [Option.some.inj h2]; rfl

theorem Nums.zero : Nums (Array.replicate 60 (.int .i64 0)) [] := by
  refine ⟨by simp, fun i hi => ?_⟩
  simp [hi]

theorem Nums.set {c : Array Value} {tq : List Int} (h : Nums c tq) (x : Int) (hl : tq.length < 60) : Nums (c.setIfInBounds tq.length (.int .i64 x)) (tq ++ [x]) := by
  refine ⟨by simp [h.size], fun i hi => ?_⟩
  rw [Array.getElem?_setIfInBounds]
  by_cases e : tq.length = i
  · subst e
    rw [if_pos rfl, if_pos (by rw [h.size]; exact hi)]
    simp
  · rw [if_neg e, h.at' i hi]
    congr 2
    rw [List.getD_eq_getElem?_getD, List.getD_eq_getElem?_getD]
    by_cases h2 : i < tq.length
    · rw [List.getElem?_append_left h2]
    · rw [List.getElem?_append_right (by omega), List.getElem?_eq_none (by omega), List.getElem?_eq_none (by simp; omega)]

theorem nums_info : (Try.prog.info? 78).map (·.size) = some 60 := by kernel_rfl

theorem count_take (l : List ByteArray) (n : Int) (fs : List M.Frg) (k : Nat) (h : k < fs.length) :
    M.count l n (fs.take (k + 1)) = M.count l n (fs.take k) ++ [bif M.gone l (fs.getD k frg0) then -1 else n + ((M.stays l (fs.take k)).length : Int)] := by
  rw [List.take_succ_eq_append_getElem h, M.count_append]
  congr 1
  rw [List.getD_eq_getElem?_getD, List.getElem?_eq_getElem h]
  simp only [M.count, Option.getD_some]
  cases M.gone l fs[k] <;> rfl

theorem below_setRow {B : Nat} {a w : World} {g : Nat} {c : Array Value} (h : Below B a w) (hg : B ≤ g) : Below B a (w.setRow g c) :=
  ⟨h.os, h.tape, h.output, by simpa using h.size, fun k hk => (setRow_other _ _ _ _ (by omega)).trans (h.block k hk)⟩

theorem stays_take (l : List ByteArray) (fs : List M.Frg) (k : Nat) (h : k < fs.length) :
    ((M.stays l (fs.take (k + 1))).length : Int) = ((M.stays l (fs.take k)).length : Int) + bif M.gone l (fs.getD k frg0) then 0 else 1 := by
  rw [List.take_succ_eq_append_getElem h, M.stays_append, List.getD_eq_getElem?_getD, List.getElem?_eq_getElem h]
  simp only [M.stays, List.length_append, Option.getD_some, List.filter_cons, List.filter_nil]
  cases M.gone l fs[k] <;> simp

set_option maxHeartbeats 4000000 in
set_option maxRecDepth 100000 in
theorem count_any (fs : List M.Frg) (l : List ByteArray) (n : Int) (a a' : Option Addr) (c c' : Nat) (w : World) (hf : FragsAt w (.slice a fs.length c) fs) (hl : StrsAt w (.slice a' l.length c') l) (h60 : fs.length ≤ 60) (hn : 0 ≤ n ∧ n ≤ 1000) :
    Calls Try.prog 43 #[.slice a fs.length c, .slice a' l.length c', .int .i64 n] w fun e w' => Below w.heap.size w w' ∧ ∃ C, e = .returned (.agg C) ∧ Nums C (M.count l n fs) := by
  go_enter Try.func43, Try.ntmps43
  go_wp2_with fail
  go_loopw [8, 14] (fun s8 s14 wr => ∃ (k : Nat) (tq : List Int) (nx : Int) (Z C : Array Value), k ≤ fs.length ∧ s14 = .int .i64 k ∧ s8 = .int .i64 nx ∧ 0 ≤ nx ∧ nx ≤ n + k ∧ Hid (tq = M.count l n (fs.take k)) ∧ Hid (nx = n + ((M.stays l (fs.take k)).length : Int)) ∧ tq.length = k ∧ Hid (Nums C tq) ∧ Hid (Z.size = 60)
      ∧ wr.heap[w.heap.size]? = some (.cells Z 78 (0, 0)) ∧ wr.heap[w.heap.size + 1]? = some (.cells C 78 (0, 0)) ∧ Hid (Below w.heap.size w wr)) (fun _ s14 _ => fs.length - (intOf s14).toNat)
  case atStart => exact ⟨0, [], n, _, _, Nat.zero_le _, rfl, rfl, hn.1, by omega, rfl, (show n = n + 0 by omega), rfl, Nums.zero, (show Array.size (Array.replicate 60 (Value.int .i64 0)) = 60 by simp), heap_alloc2_old _ _ _, heap_alloc2_new _ _ _, ((Below.refl _ _).alloc (Nat.le_refl _) _).alloc (by simp) _⟩
  case round =>
    obtain ⟨k, tq, nx, Z, C, hk, rfl, rfl, hnx0, hnx1, HT, HN, hto, HC, HZ, h6, h7, HB⟩ := hrel
    by_cases hlt : k < fs.length
    · obtain ⟨b, off, ab, cb, ar, cr, rfl, e0, e1, e2, e3, e4, e5, hBy, hRl, hg, hbl⟩ := (hf.later HB.out).cells k hlt
      have HT1 : Hid (M.count l n (fs.take (k + 1)) = tq ++ [bif M.gone l (fs.getD k frg0) then -1 else nx]) := by
        rw [Hid, count_take l n fs k hlt, ← HT.out, ← HN.out]
      have HN1 : Hid (n + ((M.stays l (fs.take (k + 1))).length : Int) = nx + bif M.gone l (fs.getD k frg0) then 0 else 1) := by
        rw [Hid, stays_take l fs k hlt, HN.out]; omega
      clear hBy hRl hbl HT HN
      have HSt : Hid (∀ o, StrsAt (wr.alloc o) (.slice a' l.length c') l) := fun o => (hl.later HB.out).later ((Below.refl _ _).alloc (Nat.le_refl _) o)
      unfold M.gone at HT1 HN1
      generalize fs.getD k frg0 = f at *
      obtain ⟨s, al, g, bs, sz, rs⟩ := f
      simp only at e0 e1 e2 e3 e4 e5 hg HT1 HN1
      have hbr : b < wr.heap.size := World.block_lt_of_cell? _ _ e0
      have hkl : (k : Int) < (fs.length : Int) := by omega
      have hk60 : (k : Int) < 60 := by omega
      have hk0 : (0 : Int) ≤ (k : Int) := by omega
      have hw0 : w.heap.size ≤ wr.heap.size := HB.out.size
      have hlt6 : w.heap.size < wr.heap.size := (Array.getElem?_eq_some_iff.1 h6).1
      have hlt7 : w.heap.size + 1 < wr.heap.size := (Array.getElem?_eq_some_iff.1 h7).1
      generalize bs.length = n1 at *
      generalize rs.length = m1 at *
      have HK : Hid (∀ o, Calls Try.prog 17 #[.slice a' l.length c', .string g] (wr.alloc o) fun e w' => e = .returned (.bool (M.has l g)) ∧ w' = wr.alloc o) := fun o => containsS_any l g a' c' _ (HSt.out o)
      have x6 := (heap_alloc_old wr (.cells #[.int .i64 s, .int .i64 al, .string g, .slice ab n1 cb, .int .i64 sz, .slice ar m1 cr] 43) hlt6).trans h6
      have x7 := (heap_alloc_old wr (.cells #[.int .i64 s, .int .i64 al, .string g, .slice ab n1 cb, .int .i64 sz, .slice ar m1 cr] 43) hlt7).trans h7
      have HBX : Hid (Below w.heap.size w (wr.alloc (.cells #[.int .i64 s, .int .i64 al, .string g, .slice ab n1 cb, .int .i64 sz, .slice ar m1 cr] 43))) := HB.out.alloc hw0 _
      have hck : (wr.alloc (.cells #[.int .i64 s, .int .i64 al, .string g, .slice ab n1 cb, .int .i64 sz, .slice ar m1 cr] 43)).cell? ⟨w.heap.size + 1, k, none⟩ = some (.int .i64 (tq.getD k 0)) := (cellB x7 k).trans (HC.out.at' k (by omega))
      have hfk : (wr.alloc (.cells #[.int .i64 s, .int .i64 al, .string g, .slice ab n1 cb, .int .i64 sz, .slice ar m1 cr] 43)).frozen? ⟨w.heap.size + 1, k, none⟩ = false := frozenB x7 k
      have HEnd : Hid (∀ v, ((wr.setCell ⟨w.heap.size + 1, k, none⟩ v).alloc (.cells #[.int .i64 s, .int .i64 al, .string g, .slice ab n1 cb, .int .i64 sz, .slice ar m1 cr] 43)).heap[w.heap.size]? = some (.cells Z 78 (0, 0)) ∧ ((wr.setCell ⟨w.heap.size + 1, k, none⟩ v).alloc (.cells #[.int .i64 s, .int .i64 al, .string g, .slice ab n1 cb, .int .i64 sz, .slice ar m1 cr] 43)).heap[w.heap.size + 1]? = some (.cells (C.setIfInBounds k v) 78 (0, 0)) ∧ Below w.heap.size w ((wr.setCell ⟨w.heap.size + 1, k, none⟩ v).alloc (.cells #[.int .i64 s, .int .i64 al, .string g, .slice ab n1 cb, .int .i64 sz, .slice ar m1 cr] 43))) := fun v =>
        ⟨(heap_alloc_old _ _ (by simpa using hlt6)).trans ((Below.heap_setCell _ _ _ _ (by show w.heap.size ≠ w.heap.size + 1; omega)).trans h6), (heap_alloc_old _ _ (by simpa using hlt7)).trans (setB' h7 v), (HB.out.setCell (by show w.heap.size ≤ w.heap.size + 1; omega) v).alloc (by simpa using hw0) _⟩
      have hxc : (wr.alloc (.cells #[.int .i64 s, .int .i64 al, .string g, .slice ab n1 cb, .int .i64 sz, .slice ar m1 cr] 43)).cell? ⟨wr.heap.size, 2, none⟩ = some (.string g) := by simp
      clear hf hl h6 h7 x6 x7 HBX HSt
      have HCs : Hid (∀ x, Nums (C.setIfInBounds k (.int .i64 x)) (tq ++ [x])) := fun x => by have := HC.out.set x (by omega); rwa [hto] at this
      cases hb : M.bare g
      · have hb' : g.toList.isEmpty = false := hb
        cases hh : M.has l g
        · rw [hb, hh] at HT1 HN1
          rw [hh] at HK
          have HT2 : Hid (tq ++ [nx] = M.count l n (fs.take (k + 1))) := HT1.symm
          have HN2 : Hid (nx + 1 = n + ((M.stays l (fs.take (k + 1))).length : Int)) := HN1.symm
          clear HT1 HN1 hb
          go_wp2_with (go_at_call 17; refine (HK.out _).mono ?_; rintro e w1 ⟨rfl, rfl⟩)
          go_roundw
          case rel => exact ⟨k + 1, tq ++ [nx], nx + 1, Z, _, by omega, by go_num, by go_num, by omega, by omega, HT2, HN2, by simp; omega, HCs.out _, HZ, (HEnd.out _).1, (HEnd.out _).2.1, (HEnd.out _).2.2⟩
          case measure => simp [intOf]; omega
        · rw [hb, hh] at HT1 HN1
          rw [hh] at HK
          have HT2 : Hid (tq ++ [-1] = M.count l n (fs.take (k + 1))) := HT1.symm
          have HN2 : Hid (nx = n + ((M.stays l (fs.take (k + 1))).length : Int)) := by have h : n + ((M.stays l (fs.take (k + 1))).length : Int) = nx + 0 := HN1.out; rw [Hid]; omega
          clear HT1 HN1 hb
          go_wp2_with (go_at_call 17; refine (HK.out _).mono ?_; rintro e w1 ⟨rfl, rfl⟩)
          go_roundw
          case rel => exact ⟨k + 1, tq ++ [-1], nx, Z, _, by omega, by go_num, rfl, by omega, by omega, HT2, HN2, by simp; omega, HCs.out _, HZ, (HEnd.out _).1, (HEnd.out _).2.1, (HEnd.out _).2.2⟩
          case measure => simp [intOf]; omega
      · rw [hb] at HT1 HN1
        have hb' : g.toList.isEmpty = true := hb
        have HT2 : Hid (tq ++ [nx] = M.count l n (fs.take (k + 1))) := HT1.symm
        have HN2 : Hid (nx + 1 = n + ((M.stays l (fs.take (k + 1))).length : Int)) := HN1.symm
        clear HT1 HN1 hb
        go_wp2_with fail
        go_roundw
        case rel => exact ⟨k + 1, tq ++ [nx], nx + 1, Z, _, by omega, by go_num, by go_num, by omega, by omega, HT2, HN2, by simp; omega, HCs.out _, HZ, (HEnd.out _).1, (HEnd.out _).2.1, (HEnd.out _).2.2⟩
        case measure => simp [intOf]; omega
    · have hkl : k = fs.length := by omega
      have HT2 : Hid (tq = M.count l n fs) := by rw [Hid, HT.out, hkl, List.take_length]
      have hcs : C.size = 60 := HC.out.size
      have hsi : (Try.prog.info? 78).map (·.size) = some C.size := by rw [hcs]; exact nums_info
      have hzc : Z.size = C.size := by rw [hcs]; exact HZ.out
      have h1c := HC.out.one
      have HEnd : Hid ((wr.setRow w.heap.size C).heap[w.heap.size]? = some (.cells C 78 (0, 0))) := setRow_heap _ _ _ _ _ _ h6
      have HBe : Hid (Below w.heap.size w (wr.setRow w.heap.size C)) := below_setRow HB.out (Nat.le_refl _)
      clear HT HN
      subst hkl
      go_wp2_with (first | (refine wpList_load_row rfl 78 _ rfl (w.heap.size + 1) rfl 78 C (0, 0) _ h7 Try.underlying78 rfl hsi ?_) | (refine wpList_store_row rfl 78 _ _ rfl w.heap.size C rfl rfl 78 Z h6 hsi hzc h1c ?_))
      refine bodyPost_ret (v := .agg C) (results_cell_row Try.results43 _ _ w.heap.size 78 C (0, 0) _ rfl HEnd.out Try.underlying78 rfl hsi) rfl ?_
      exact ⟨HBe.out, C, rfl, by rw [← HT2.out]; exact HC.out⟩

end Go.Proofs.Ytebhbhbhcoijpaa
