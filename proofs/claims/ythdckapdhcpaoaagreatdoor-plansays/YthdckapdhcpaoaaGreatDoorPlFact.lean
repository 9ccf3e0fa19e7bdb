/-
  The closed fact of the plan's laws: three parts.
-/
import Derived.Test.YthdckapdhcpaoaaGreatDoorPlEq
import Derived.Test.YthdckapdhcpaoaaGreatDoorPlReady
import Derived.Test.YthdckapdhcpaoaaGreatDoorLyEqI
namespace Go.Proofs.YthdckapdhcpaoaaGreatDoor
open Go Go.RowKit
set_option linter.unusedVariables false

theorem blk_sl {W : World} {b : Nat} {cs : Array Value} {t : TypeId} {fr : Nat × Nat} (h : W.heap[b]? = some (.cells cs t fr)) (k n c : Nat) (cell : Nat → Nat → Value) (hc : ∀ j i, j < n → i < k → cs[j * k + i]? = some (cell j i)) (hn : n ≤ maxLen) : SlAt W (.slice (some ⟨b, 0, none⟩) n c) k n cell :=
  ⟨_, _, rfl, hn, .inr ⟨b, 0, rfl, fun j i hj hi => by rw [cellB h, Nat.zero_add]; exact hc j i hj hi⟩⟩
theorem nodes_block {W : World} {b c : Nat} {l : List M.Nd} {cs : Array Value} {t : TypeId} {fr : Nat × Nat} (h : W.heap[b]? = some (.cells cs t fr)) (e : cs = (l.flatMap encNd).toArray) (hn : l.length ≤ 1000) : NodesAt W (.slice (some ⟨b, 0, none⟩) l.length c) l := by
  subst e
  refine blk_sl h 3 l.length c _ (fun j i hj hi => ?_) (by unfold maxLen; omega)
  rw [List.getElem?_toArray, flat_get 3 encNd (fun _ => rfl) l j i hi, getElem?_getD l M.nd0 j hj]
  match i, hi with
  | 0, _ => rfl
  | 1, _ => rfl
  | 2, _ => rfl
theorem ints_block {W : World} {b c : Nat} {l : List Int} {cs : Array Value} {t : TypeId} {fr : Nat × Nat} (h : W.heap[b]? = some (.cells cs t fr)) (e : cs = (l.map (Value.int .i64)).toArray) (hn : l.length ≤ 1000) : IntsAt W (.slice (some ⟨b, 0, none⟩) l.length c) l := by
  subst e
  refine blk_sl h 1 l.length c _ (fun j i hj hi => ?_) (by unfold maxLen; omega)
  obtain rfl : i = 0 := by omega
  rw [List.getElem?_toArray, Nat.mul_one, Nat.add_zero, List.getElem?_map, getElem?_getD l 0 j hj]; rfl
theorem bools_block {W : World} {b c : Nat} {l : List Bool} {cs : Array Value} {t : TypeId} {fr : Nat × Nat} (h : W.heap[b]? = some (.cells cs t fr)) (e : cs = (l.map Value.bool).toArray) (hn : l.length ≤ 1000) : BoolsAt W (.slice (some ⟨b, 0, none⟩) l.length c) l := by
  subst e
  refine blk_sl h 1 l.length c _ (fun j i hj hi => ?_) (by unfold maxLen; omega)
  obtain rfl : i = 0 := by omega
  rw [List.getElem?_toArray, Nat.mul_one, Nat.add_zero, List.getElem?_map, getElem?_getD l false j hj]; rfl

def plA : List M.Nd := [⟨0, 0, 0⟩, ⟨1, 0, 0⟩, ⟨-1, 0, 1⟩, ⟨2, 0, 0⟩, ⟨-1, 2, 3⟩]
def plB : List M.Nd := [⟨0, 0, 0⟩, ⟨1, 0, 0⟩, ⟨2, 0, 0⟩, ⟨-1, 1, 2⟩, ⟨-1, 0, 3⟩]
def plD : List Bool := [true, true, false, false, false]
theorem plA_make : M.make 3 [1] = plA := by rfl
theorem plB_make : M.make 3 [] = plB := by rfl
theorem plA_E : M.makeE 3 [1] = 0 := by decide
theorem plB_E : M.makeE 3 [] = 0 := by decide
theorem plA_ready : M.ready plA plD = [2, 3] := by rfl
theorem plA_rE : M.readyE plA 3 plD = 0 := by decide

set_option maxHeartbeats 8000000 in
set_option maxRecDepth 100000 in
theorem planned_true (w : World) : Calls Tryz.prog 8 #[] w fun e w' => e = .returned (.bool true) ∧ Below w.heap.size w w' := by
  have hA : Hid (Below w.heap.size w (w.alloc (.cells #[.int .i64 1] 3))) := (Below.refl _ _).alloc (Nat.le_refl _) _
  have K1 : Hid (Calls Tryz.prog 4 #[.int .i64 3, .slice (some ⟨w.heap.size, 0, none⟩) 1 1] (w.alloc (.cells #[.int .i64 1] 3)) fun e w' => Below (w.alloc (.cells #[.int .i64 1] 3)).heap.size (w.alloc (.cells #[.int .i64 1] 3)) w' ∧ ∃ v, e = .returned (.tuple #[v, .int .i64 0]) ∧ NodesAt w' v plA) :=
    (make_any 3 [1] _ 1 _ (ints_block (l := [1]) (heap_alloc_new w _) rfl (by decide))).mono fun e w' ⟨h1, v, h2, h3⟩ => ⟨h1, v, by rw [h2, plA_E], by have := row_nodes h3; rwa [plA_make] at this⟩
  have K2 : Hid (∀ W, Calls Tryz.prog 4 #[.int .i64 3, .slice none 0 0] W fun e w' => Below W.heap.size W w' ∧ ∃ v, e = .returned (.tuple #[v, .int .i64 0]) ∧ NodesAt w' v plB) := fun W =>
    (make_any 3 [] _ 0 W (ints_nil W)).mono fun e w' ⟨h1, v, h2, h3⟩ => ⟨h1, v, by rw [h2, plB_E], by have := row_nodes h3; rwa [plB_make] at this⟩
  go_enter Tryz.func8, Tryz.ntmps8
  go_upto_region 2 with (go_at_call 4; refine K1.out.mono ?_; rintro e w1 ⟨hb1, v1, rfl, hN1⟩; obtain ⟨a1, c1, rfl, _⟩ := SlAt.form hN1)
  have HB1 : Hid (Below w.heap.size w w1) := hA.out.trans (hb1.mono hA.out.size)
  clear hb1 hA K1
  go_upto_region 3 with (go_at_call 4; refine (K2.out _).mono ?_; rintro e w2 ⟨hb2, v2, rfl, hN2⟩; obtain ⟨a2, c2, rfl, _⟩ := SlAt.form hN2)
  have HB2 : Hid (Below w.heap.size w w2) := HB1.out.trans (hb2.mono HB1.out.size)
  replace hN1 := hN1.later hb2
  clear hb2 HB1 K2
  have hA3 : Below w2.heap.size w2 (w2.alloc (.cells #[.bool true, .bool true, .bool false, .bool false, .bool false] 4)) := (Below.refl _ _).alloc (Nat.le_refl _) _
  have K3 : Hid (Calls Tryz.prog 6 #[.slice a1 plA.length c1, .int .i64 3, .slice (some ⟨w2.heap.size, 0, none⟩) 5 5] (w2.alloc (.cells #[.bool true, .bool true, .bool false, .bool false, .bool false] 4)) fun e w' => Below (w2.alloc (.cells #[.bool true, .bool true, .bool false, .bool false, .bool false] 4)).heap.size (w2.alloc (.cells #[.bool true, .bool true, .bool false, .bool false, .bool false] 4)) w' ∧ ∃ v, e = .returned (.tuple #[v, .int .i64 0]) ∧ IntsAt w' v [2, 3]) :=
    (ready_any plA 3 plD a1 _ c1 5 _ (hN1.later hA3) (bools_block (l := plD) (heap_alloc_new w2 _) rfl (by decide))).mono fun e w' ⟨h1, v, h2, h3⟩ => ⟨h1, v, by rw [h2, plA_rE], by rw [plA_rE, if_pos rfl, plA_ready] at h3; exact row_ints h3⟩
  have HA3 : Hid _ := hA3
  have H12 : Hid (NodesAt w2 (.slice a1 plA.length c1) plA ∧ NodesAt w2 (.slice a2 plB.length c2) plB) := ⟨hN1, hN2⟩
  clear hN1 hN2 hA3
  rw [show plA.length = 5 from rfl] at *
  rw [show plB.length = 5 from rfl] at *
  go_upto_region 4 with (go_at_call 6; refine K3.out.mono ?_; rintro e w3 ⟨hb3, v3, rfl, hN3⟩; obtain ⟨a3, c3, rfl, _⟩ := SlAt.form hN3)
  have hb23 : Below w2.heap.size w2 w3 := HA3.out.trans (hb3.mono HA3.out.size)
  have HB3 : Hid (Below w.heap.size w w3) := HB2.out.trans (hb23.mono HB2.out.size)
  have H1 : Hid (NodesAt w3 (.slice a1 plA.length c1) plA) := H12.out.1.later hb23
  have H2 : Hid (NodesAt w3 (.slice a2 plB.length c2) plB) := H12.out.2.later hb23
  have H3 : Hid (IntsAt w3 (.slice a3 2 c3) [2, 3]) := hN3
  clear hb3 hb23 HB2 H12 K3 HA3 hN3
  have KE1 : Hid (∀ W, Below w3.heap.size w3 W → Calls Tryz.prog 10 #[.slice a1 5 c1, .slice (some ⟨W.heap.size, 0, none⟩) 5 5] (W.alloc (.cells #[.int .i64 0, .int .i64 0, .int .i64 0, .int .i64 1, .int .i64 0, .int .i64 0, .int .i64 (-1), .int .i64 0, .int .i64 1, .int .i64 2, .int .i64 0, .int .i64 0, .int .i64 (-1), .int .i64 2, .int .i64 3] 37)) fun e w' => e = .returned (.bool true) ∧ Below w3.heap.size w3 w') := fun W hW =>
    (eqNodes_any plA plA a1 _ c1 5 _ (H1.out.later (hW.alloc hW.size _)) (nodes_block (l := plA) (heap_alloc_new W _) rfl (by decide))).mono fun e w' ⟨h1, h2⟩ => ⟨by rw [h1, sameNd_self], (hW.alloc hW.size _).trans (h2.mono (by have := hW.size; simp; omega))⟩
  have KE2 : Hid (∀ W, Below w3.heap.size w3 W → Calls Tryz.prog 10 #[.slice a2 5 c2, .slice (some ⟨W.heap.size, 0, none⟩) 5 5] (W.alloc (.cells #[.int .i64 0, .int .i64 0, .int .i64 0, .int .i64 1, .int .i64 0, .int .i64 0, .int .i64 2, .int .i64 0, .int .i64 0, .int .i64 (-1), .int .i64 1, .int .i64 2, .int .i64 (-1), .int .i64 0, .int .i64 3] 37)) fun e w' => e = .returned (.bool true) ∧ Below w3.heap.size w3 w') := fun W hW =>
    (eqNodes_any plB plB a2 _ c2 5 _ (H2.out.later (hW.alloc hW.size _)) (nodes_block (l := plB) (heap_alloc_new W _) rfl (by decide))).mono fun e w' ⟨h1, h2⟩ => ⟨by rw [h1, sameNd_self], (hW.alloc hW.size _).trans (h2.mono (by have := hW.size; simp; omega))⟩
  have KE3 : Hid (∀ W, Below w3.heap.size w3 W → Calls Tryz.prog 12 #[.slice a3 2 c3, .slice (some ⟨W.heap.size, 0, none⟩) 2 2] (W.alloc (.cells #[.int .i64 2, .int .i64 3] 3)) fun e w' => e = .returned (.bool true) ∧ Below w3.heap.size w3 w') := fun W hW =>
    (equalI_any [2, 3] [2, 3] a3 _ c3 2 _ (H3.out.later (hW.alloc hW.size _)) (ints_block (l := [2, 3]) (heap_alloc_new W _) rfl (by decide))).mono fun e w' ⟨h1, h2⟩ => ⟨by rw [h1]; rfl, (hW.alloc hW.size _).trans (h2.mono (by have := hW.size; simp; omega))⟩
  clear H1 H2 H3
  go_wp2_with (first | (go_at_call 12; refine (KE3.out _ h5).mono ?_; rintro e w6 ⟨rfl, h6⟩) | (go_at_call 10; refine (KE2.out _ h4).mono ?_; rintro e w5 ⟨rfl, h5⟩) | (go_at_call 10; refine (KE1.out _ (Below.refl _ _)).mono ?_; rintro e w4 ⟨rfl, h4⟩))
  go_ret
  exact ⟨rfl, HB3.out.trans (h6.mono HB3.out.size)⟩

end Go.Proofs.YthdckapdhcpaoaaGreatDoor
