/-
  The contracts of plan.Make and of the functions in it.
-/
import Derived.Test.YtohcimggpmcaeaaPlCheck
import Derived.Maps.AppendAt
namespace Go.Proofs.Ytohcimggpmcaeaa
open Go Go.RowKit
set_option linter.unusedVariables false

attribute [local go_sem] run_store_fnP

def encNd (n : M.Nd) : List Value := [.int .i64 n.leaf, .int .i64 n.left, .int .i64 n.right]

theorem row_nodes {w : World} {B : Nat} {v : Value} {l : List M.Nd} (h : w.ownsRow B 32 3 v l.length (l.flatMap encNd)) : NodesAt w v l := by
  refine (row_slice (k := 3) M.nd0 encNd (fun _ => rfl) l h).congr' (fun j i hj hi => ?_)
  match i, hi with
  | 0, _ => rfl
  | 1, _ => rfl
  | 2, _ => rfl

theorem row_setP {w : World} {B k n b i : Nat} {e t : TypeId} {v u : Value} {xs : List Value} {cs : Array Value} {fr : Nat × Nat} (h : w.ownsRow B e k v n xs) (hb : w.heap[b]? = some (.cells cs t fr)) (hne : e ≠ t) : (w.setCell ⟨b, i, none⟩ u).ownsRow B e k v n xs :=
  h.kept (grown_set w b i u) (own_ne h hb hne)
theorem block_keptP {w w' : World} {B k n b : Nat} {e t : TypeId} {v : Value} {xs : List Value} {cs : Array Value} {fr : Nat × Nat} (h : w.ownsRow B e k v n xs) (hg : w.grownBy w' v.ownBlock) (hb : w.heap[b]? = some (.cells cs t fr)) (hne : e ≠ t) : w'.heap[b]? = some (.cells cs t fr) := by
  refine (hg.block b (Array.getElem?_eq_some_iff.1 hb).1 ?_).trans hb
  intro e2
  rcases own_ne h hb hne with h1 | h1
  · rw [h1] at e2; cases e2
  · exact h1 e2.symm

/-- what Make has in memory -/
structure GI (w W : World) (pa : Option Addr) (pc : Nat) (picks : List Int) (po : Nat) (out : List M.Nd) (v : Value) : Prop where
  q0 : W.heap[w.heap.size]? = some (.cells #[v] 23 (0, 0))
  q1 : W.heap[w.heap.size + 1]? = some (.cells #[.func (.func 19) #[] #[.pointer (some ⟨w.heap.size, 0, none⟩)]] 52 (0, 0))
  q2 : W.heap[w.heap.size + 2]? = some (.cells #[.slice pa picks.length pc] 22 (0, 0))
  q3 : W.heap[w.heap.size + 3]? = some (.cells #[.int .i64 po] 3 (0, 0))
  q4 : W.heap[w.heap.size + 4]? = some (.cells #[.func (.func 33) #[] #[.pointer (some ⟨w.heap.size + 3, 0, none⟩), .pointer (some ⟨w.heap.size + 2, 0, none⟩)]] 53 (0, 0))
  q5 : W.heap[w.heap.size + 5]? = some (.cells #[.func (.func 21) #[] #[.pointer (some ⟨w.heap.size + 1, 0, none⟩), .pointer (some ⟨w.heap.size + 4, 0, none⟩), .pointer (some ⟨w.heap.size + 5, 0, none⟩)]] 38 (0, 0))
  row : W.ownsRow (w.heap.size + 6) 32 3 v out.length (out.flatMap encNd)
  below : Below w.heap.size w W

theorem GI.alloc {w W : World} {pa : Option Addr} {pc : Nat} {picks : List Int} {po : Nat} {out : List M.Nd} {v : Value} (h : GI w W pa pc picks po out v) (o : Obj) : GI w (W.alloc o) pa pc picks po out v :=
  have hb := (Below.refl W.heap.size W).alloc (Nat.le_refl _) o
  ⟨(hb.block _ (Array.getElem?_eq_some_iff.1 h.q0).1).trans h.q0, (hb.block _ (Array.getElem?_eq_some_iff.1 h.q1).1).trans h.q1, (hb.block _ (Array.getElem?_eq_some_iff.1 h.q2).1).trans h.q2, (hb.block _ (Array.getElem?_eq_some_iff.1 h.q3).1).trans h.q3, (hb.block _ (Array.getElem?_eq_some_iff.1 h.q4).1).trans h.q4, (hb.block _ (Array.getElem?_eq_some_iff.1 h.q5).1).trans h.q5, h.row.alloc o, h.below.trans (hb.mono h.below.size)⟩

/-- a node is appended -/
theorem GI.push {w W X : World} {pa : Option Addr} {pc : Nat} {picks : List Int} {po : Nat} {out : List M.Nd} {v v' : Value} {n : M.Nd} (h : GI w W pa pc picks po out v) (hg : W.grownBy X v.ownBlock)
    (hr : X.ownsRow (w.heap.size + 6) 32 3 v' (out.length + 1) (out.flatMap encNd ++ encNd n)) : GI w (X.setCell ⟨w.heap.size, 0, none⟩ v') pa pc picks po (out ++ [n]) v' := by
  have z0 := block_keptP h.row hg h.q0 (by decide)
  refine ⟨setB' z0 _, (Below.heap_setCell _ _ _ _ (by show w.heap.size + 1 ≠ w.heap.size; omega)).trans (block_keptP h.row hg h.q1 (by decide)), (Below.heap_setCell _ _ _ _ (by show w.heap.size + 2 ≠ w.heap.size; omega)).trans (block_keptP h.row hg h.q2 (by decide)),
    (Below.heap_setCell _ _ _ _ (by show w.heap.size + 3 ≠ w.heap.size; omega)).trans (block_keptP h.row hg h.q3 (by decide)), (Below.heap_setCell _ _ _ _ (by show w.heap.size + 4 ≠ w.heap.size; omega)).trans (block_keptP h.row hg h.q4 (by decide)), (Below.heap_setCell _ _ _ _ (by show w.heap.size + 5 ≠ w.heap.size; omega)).trans (block_keptP h.row hg h.q5 (by decide)), ?_, ?_⟩
  · rw [List.length_append, List.flatMap_append]
    have := row_setP hr z0 (i := 0) (u := v') (by decide)
    simpa [List.flatMap_cons] using this
  · exact (h.below.grown hg h.below.size (fun k hk => by have := (h.row.lt k hk).1; omega)).setCell (Nat.le_refl _) _

/-- the picks' place is written -/
theorem GI.pos {w W : World} {pa : Option Addr} {pc : Nat} {picks : List Int} {po : Nat} {out : List M.Nd} {v : Value} (h : GI w W pa pc picks po out v) (p : Nat) : GI w (W.setCell ⟨w.heap.size + 3, 0, none⟩ (.int .i64 p)) pa pc picks p out v :=
  ⟨(Below.heap_setCell _ _ _ _ (by show w.heap.size ≠ w.heap.size + 3; omega)).trans h.q0, (Below.heap_setCell _ _ _ _ (by show w.heap.size + 1 ≠ w.heap.size + 3; omega)).trans h.q1, (Below.heap_setCell _ _ _ _ (by show w.heap.size + 2 ≠ w.heap.size + 3; omega)).trans h.q2, setB' h.q3 _,
   (Below.heap_setCell _ _ _ _ (by show w.heap.size + 4 ≠ w.heap.size + 3; omega)).trans h.q4, (Below.heap_setCell _ _ _ _ (by show w.heap.size + 5 ≠ w.heap.size + 3; omega)).trans h.q5, row_setP h.row h.q3 (by decide), h.below.setCell (by show w.heap.size ≤ w.heap.size + 3; omega) _⟩

set_option maxHeartbeats 4000000 in
set_option maxRecDepth 100000 in
theorem add_any (x y z : Int) (w W : World) (pa : Option Addr) (pc : Nat) (picks : List Int) (po : Nat) (out : List M.Nd) (v : Value) (hG : GI w W pa pc picks po out v) (hl : out.length ≤ 1000) :
    Calls Try.prog 19 #[.agg #[.int .i64 x, .int .i64 y, .int .i64 z], .pointer (some ⟨w.heap.size, 0, none⟩)] W fun e w' => e = .returned (.int .i64 out.length) ∧ ∃ v', GI w w' pa pc picks po (out ++ [⟨x, y, z⟩]) v' := by
  obtain ⟨i1, hi1, hy0, hy1, hy2⟩ := info_parts (P := Try.prog) (e := 32) (z := .agg #[.int .i64 0, .int .i64 0, .int .i64 0]) (size := 3) (bytes := 24) (by kernel_rfl)
  obtain ⟨ad, cc, rfl⟩ := own_len hG.row
  have HG : Hid (GI w W pa pc picks po out (.slice ad out.length cc)) := hG
  have hlt : w.heap.size + 5 < W.heap.size := (Array.getElem?_eq_some_iff.1 hG.q5).1
  clear hG
  go_enter Try.func19, Try.ntmps19
  go_upto_region 1 with fail
  have p1 := heap_alloc_new W (.cells #[.int .i64 x, .int .i64 y, .int .i64 z] 32)
  have HX : Hid (GI w (W.alloc (.cells #[.int .i64 x, .int .i64 y, .int .i64 z] 32)) pa pc picks po out (.slice ad out.length cc)) := HG.out.alloc _
  clear HG
  generalize W.alloc (.cells #[.int .i64 x, .int .i64 y, .int .i64 z] 32) = Y at *
  generalize W.heap.size = nb at *
  have k0 : Y.cell? ⟨nb, 0, none⟩ = some (.int .i64 x) := cellB p1 0
  have k1 : Y.cell? ⟨nb, 1, none⟩ = some (.int .i64 y) := cellB p1 1
  have k2 : Y.cell? ⟨nb, 2, none⟩ = some (.int .i64 z) := cellB p1 2
  have kv : Y.cell? ⟨w.heap.size, 0, none⟩ = some (.slice ad out.length cc) := cellB HX.out.q0 0
  have hlY : nb < Y.heap.size := (Array.getElem?_eq_some_iff.1 p1).1
  have hl0 : w.heap.size < Y.heap.size := by omega
  have hrow := HX.out.row
  have hnews : ∀ j u, (#[.int .i64 x, .int .i64 y, .int .i64 z] : Array Value).toList[j]? = some u → (Y.alloc (.cells #[.int .i64 x, .int .i64 y, .int .i64 z] 32)).cell? ((⟨Y.heap.size, 0, none⟩ : Addr).add j) = some u := World.news_of_block (heap_alloc_new Y _)
  have HY : Hid (GI w (Y.alloc (.cells #[.int .i64 x, .int .i64 y, .int .i64 z] 32)) pa pc picks po out (.slice ad out.length cc)) := HX.out.alloc _
  have HQ : Hid (∀ X, (Y.alloc (.cells #[.int .i64 x, .int .i64 y, .int .i64 z] 32)).grownBy X (Value.slice ad out.length cc).ownBlock → X.heap[w.heap.size]? = some (.cells #[.slice ad out.length cc] 23 (0, 0))) := fun X hX => block_keptP HY.out.row hX HY.out.q0 (by decide)
  clear HX p1
  go_wp2_with (at_builtin; refine wpList_append_own _ rfl _ _ 23 rfl (w.heap.size + 6) 32 i1 (.agg #[.int .i64 0, .int .i64 0, .int .i64 0]) 3 24 Try.underlying23 hi1 hy0 hy1 hy2 rfl (by decide) _ _ _ rfl (hrow.alloc _) ⟨Y.heap.size, 0, none⟩ 1 1 (#[.int .i64 x, .int .i64 y, .int .i64 z] : Array Value).toList rfl rfl hnews (fun u hu => by simp at hu; rcases hu with rfl | rfl | rfl <;> rfl) (by unfold maxLen; omega) (by omega) (by simp; omega) ?_; intro v' w3 hown' hgrow3 hnil3; obtain ⟨z1, z2, rfl⟩ := own_len hown'; have k3 := HQ.out w3 hgrow3; have c3 : w3.cell? ⟨w.heap.size, 0, none⟩ = some (.slice ad out.length cc) := cellB k3 0; have f3 := frozenB k3 0; have l3 : w.heap.size < w3.heap.size := (Array.getElem?_eq_some_iff.1 k3).1)
  go_ret
  exact ⟨ret_int (by omega), _, HY.out.push hgrow3 hown'⟩

theorem tmod_emod (x n : Int) (hn : 0 < n) : x % n = if x.tmod n < 0 then x.tmod n + n else x.tmod n := by
  have h1 := Int.mul_tdiv_add_tmod x n
  have h2 : (x.tmod n).natAbs < n.natAbs := by
    rw [Int.natAbs_tmod]
    exact Nat.mod_lt _ (by omega)
  have h3 : x % n = (x.tmod n) % n := by
    conv => lhs; rw [← h1]
    rw [Int.add_comm, Int.add_mul_emod_self_left]
  rw [h3]
  split
  · rw [← Int.add_emod_right]
    exact Int.emod_eq_of_lt (by omega) (by omega)
  · exact Int.emod_eq_of_lt (by omega) (by omega)

set_option maxHeartbeats 4000000 in
set_option maxRecDepth 100000 in
theorem pick_any (n : Int) (w W : World) (pa : Option Addr) (pc : Nat) (picks : List Int) (po : Nat) (out : List M.Nd) (v : Value) (hp : IntsAt w (.slice pa picks.length pc) picks) (hG : GI w W pa pc picks po out v) (hpo : po ≤ picks.length) (h1 : 1 ≤ n) (h2 : n ≤ 100) :
    Calls Try.prog 33 #[.int .i64 n, .pointer (some ⟨w.heap.size + 3, 0, none⟩), .pointer (some ⟨w.heap.size + 2, 0, none⟩)] W fun e w' => e = .returned (.int .i64 (M.pick (picks.drop po) n).1) ∧ ∃ p', p' ≤ picks.length ∧ GI w w' pa pc picks p' out v ∧ picks.drop p' = (M.pick (picks.drop po) n).2 := by
  have hpl : picks.length ≤ maxLen := by obtain ⟨_, _, _, h⟩ := SlAt.form hp; exact h
  unfold maxLen at hpl
  have c3 : W.cell? ⟨w.heap.size + 3, 0, none⟩ = some (.int .i64 po) := cellB hG.q3 0
  have f3 := frozenB hG.q3 0
  have c2 : W.cell? ⟨w.heap.size + 2, 0, none⟩ = some (.slice pa picks.length pc) := cellB hG.q2 0
  have l3 : w.heap.size + 3 < W.heap.size := (Array.getElem?_eq_some_iff.1 hG.q3).1
  have l2 : w.heap.size + 2 < W.heap.size := by omega
  by_cases hlt : po < picks.length
  · obtain ⟨b, off, rfl, e0, hb⟩ := (hp.later hG.below).cell po hlt
    have HR : Hid ((M.pick (picks.drop po) n) = (picks.getD po 0 % n, picks.drop (po + 1))) := by
      rw [Hid, drop_getD picks 0 po hlt]; rfl
    have HG : Hid (GI w (W.setCell ⟨w.heap.size + 3, 0, none⟩ (.int .i64 ((po : Int) + 1))) (some ⟨b, off, none⟩) pc picks (po + 1) out v) := hG.pos (po + 1)
    have hlt' : (po : Int) < (picks.length : Int) := by omega
    have hge : ¬ ((picks.length : Int) ≤ (po : Int)) := by omega
    have hpo0 : (0 : Int) ≤ (po : Int) := by omega
    clear hG hp
    generalize picks.getD po 0 = x at *
    have hn0 : (n == 0) = false := by rw [beq_eq_false_iff_ne]; omega
    have HM : Hid (x % n = if x.tmod n < 0 then x.tmod n + n else x.tmod n) := tmod_emod x n (by omega)
    have hr : -100 ≤ x.tmod n ∧ x.tmod n ≤ 100 := by
      have h2 : (x.tmod n).natAbs < n.natAbs := by
        rw [Int.natAbs_tmod]
        exact Nat.mod_lt _ (by omega)
      omega
    by_cases hneg : x.tmod n < 0
    · have HV : Hid (x.tmod n + n = x % n) := by rw [Hid, HM.out, if_pos hneg]
      clear HM
      go_enter Try.func33, Try.ntmps33
      go_wp2_with fail
      go_ret
      exact ⟨ret_int (by rw [HR.out]; exact HV.out), po + 1, by omega, HG.out, by rw [HR.out]⟩
    · have HV : Hid (x.tmod n = x % n) := by rw [Hid, HM.out, if_neg hneg]
      clear HM
      go_enter Try.func33, Try.ntmps33
      go_wp2_with fail
      go_ret
      exact ⟨ret_int (by rw [HR.out]; exact HV.out), po + 1, by omega, HG.out, by rw [HR.out]⟩
  · have HR : Hid ((M.pick (picks.drop po) n) = (0, [])) := by
      rw [Hid, List.drop_eq_nil_of_le (by omega)]; rfl
    have HG : Hid (GI w W pa pc picks po out v) := hG
    have hge : ((picks.length : Int) ≤ (po : Int)) := by omega
    clear hG hp
    go_enter Try.func33, Try.ntmps33
    go_wp2_with fail
    go_ret
    exact ⟨ret_int (by rw [HR.out]), po, hpo, HG.out, by rw [HR.out, List.drop_eq_nil_of_le (by omega)]⟩

end Go.Proofs.Ytohcimggpmcaeaa
