/-
  The reference: the plan that picks make, by a list of what is to be done.
-/
import Derived.Test.YthdckapdhcpaoaaGreatDoorPlMk
import Derived.Test.YthdckapdhcpaoaaGreatDoorPlMa
import Derived.Test.YthdckapdhcpaoaaGreatDoorPlRl
import Derived.Maps.AppendAt
namespace Go.Proofs.YthdckapdhcpaoaaGreatDoor
open Go Go.RowKit
set_option linter.unusedVariables false

def encSp (t : M.Spn) : List Value := [.int .i64 t.start, .int .i64 t.n, .bool t.up, .int .i64 t.left]
def lenOf : Value → Nat
  | .slice _ n _ => n
  | _ => 0

/-- the last ones of a row are let go -/
theorem own_takeP {w : World} {B k n m c : Nat} {e : TypeId} {a : Option Addr} {xs : List Value} (h : w.ownsRow B e k (.slice a n c) n xs) (hm : m ≤ n) (h0 : 0 < n) : w.ownsRow B e k (.slice a m c) m (xs.take (m * k)) := by
  refine ⟨by rw [List.length_take, h.1]; exact Nat.min_eq_left (Nat.mul_le_mul_right _ hm), ?_⟩
  rcases h.2 with ⟨h1, h2⟩ | ⟨g, cap, cur, h1, hb, h2, h3, h4, h5, h6⟩
  · omega
  · cases h1
    exact .inr ⟨g, c, cur, rfl, hb, h2, by omega, h4, h5, by rw [← h6, List.take_take, Nat.min_eq_left (Nat.mul_le_mul_right _ hm)]⟩
theorem own_capP {w : World} {B k n c : Nat} {e : TypeId} {a : Option Addr} {xs : List Value} (h : w.ownsRow B e k (.slice a n c) n xs) : n ≤ c := by
  rcases h.2 with ⟨h1, h2⟩ | ⟨g, cap, cur, h1, hb, h2, h3, h4, h5, h6⟩
  · cases h1; omega
  · cases h1; exact h3
theorem flat_take {α : Type} (k : Nat) (f : α → List Value) (hf : ∀ x, (f x).length = k) (a b : List α) : ((a ++ b).flatMap f).take (a.length * k) = a.flatMap f := by
  have hl : (a.flatMap f).length = a.length * k := by
    clear b
    induction a with
    | nil => simp
    | cons x a ih => rw [List.flatMap_cons, List.length_append, hf, ih, List.length_cons, Nat.add_mul]; omega
  rw [List.flatMap_append, ← hl, List.take_left]

/-- what Planned has in memory -/
structure PlR (w W : World) (s : M.Sk) (v5 v6 v7 : Value) : Prop where
  below : Below w.heap.size w W
  r5 : W.ownsRow w.heap.size 37 3 v5 s.nodes.length (s.nodes.flatMap encNd)
  r6 : W.ownsRow w.heap.size 62 4 v6 s.todo.length (s.todo.flatMap encSp)
  r7 : W.ownsRow w.heap.size 3 1 v7 s.done.length (encIR s.done)

theorem PlR.later {w W X : World} {s : M.Sk} {v5 v6 v7 : Value} (h : PlR w W s v5 v6 v7) (hb : Below W.heap.size W X) : PlR w X s v5 v6 v7 :=
  ⟨h.below.trans (hb.mono h.below.size), h.r5.kept (grown_of_below hb none) own_self, h.r6.kept (grown_of_below hb none) own_self, h.r7.kept (grown_of_below hb none) own_self⟩
theorem PlR.to5 {w W X : World} {s : M.Sk} {v5 v6 v7 v' : Value} {n : M.Nd} (h : PlR w W s v5 v6 v7) (hg : W.grownBy X v5.ownBlock) (hr : X.ownsRow w.heap.size 37 3 v' (s.nodes.length + 1) (s.nodes.flatMap encNd ++ encNd n)) : PlR w X ⟨s.nodes ++ [n], s.todo, s.done, s.picks⟩ v' v6 v7 :=
  ⟨h.below.grown hg h.below.size (fun k hk => (h.r5.lt k hk).1), by rw [List.length_append, List.flatMap_append]; simpa [List.flatMap_cons] using hr, h.r6.kept hg (own_apart h.r6 h.r5 (by decide)), h.r7.kept hg (own_apart h.r7 h.r5 (by decide))⟩
theorem PlR.to7 {w W X : World} {s : M.Sk} {v5 v6 v7 v' : Value} {x : Int} (h : PlR w W s v5 v6 v7) (hg : W.grownBy X v7.ownBlock) (hr : X.ownsRow w.heap.size 3 1 v' (s.done.length + 1) (encIR s.done ++ [.int .i64 x])) : PlR w X ⟨s.nodes, s.todo, s.done ++ [x], s.picks⟩ v5 v6 v' :=
  ⟨h.below.grown hg h.below.size (fun k hk => (h.r7.lt k hk).1), h.r5.kept hg (own_apart h.r5 h.r7 (by decide)), h.r6.kept hg (own_apart h.r6 h.r7 (by decide)), by rw [List.length_append, encIR, List.map_append]; exact hr⟩
theorem PlR.to6 {w W X : World} {s : M.Sk} {v5 v6 v7 v' : Value} {ts : List M.Spn} (h : PlR w W s v5 v6 v7) (hg : W.grownBy X v6.ownBlock) (hr : X.ownsRow w.heap.size 62 4 v' (s.todo.length + ts.length) (s.todo.flatMap encSp ++ ts.flatMap encSp)) : PlR w X ⟨s.nodes, s.todo ++ ts, s.done, s.picks⟩ v5 v' v7 :=
  ⟨h.below.grown hg h.below.size (fun k hk => (h.r6.lt k hk).1), h.r5.kept hg (own_apart h.r5 h.r6 (by decide)), by rw [List.length_append, List.flatMap_append]; exact hr, h.r7.kept hg (own_apart h.r7 h.r6 (by decide))⟩
theorem PlR.pop6 {w W : World} {nodes : List M.Nd} {td : List M.Spn} {t : M.Spn} {done ps : List Int} {v5 v7 : Value} {a : Option Addr} {c : Nat} (h : PlR w W ⟨nodes, td ++ [t], done, ps⟩ v5 (.slice a (td.length + 1) c) v7) : PlR w W ⟨nodes, td, done, ps⟩ v5 (.slice a td.length c) v7 :=
  ⟨h.below, h.r5, by
    have := own_takeP (m := td.length) (show W.ownsRow w.heap.size 62 4 (.slice a (td.length + 1) c) (td.length + 1) ((td ++ [t]).flatMap encSp) by simpa using h.r6) (by omega) (by omega)
    rwa [flat_take 4 encSp (fun _ => rfl) td [t]] at this, h.r7⟩
theorem PlR.pop7 {w W : World} {s : M.Sk} {v5 v6 : Value} {a : Option Addr} {c m n : Nat} (h : PlR w W s v5 v6 (.slice a n c)) (hn : s.done.length = n) (hm : m ≤ n) (h0 : 0 < n) : PlR w W ⟨s.nodes, s.todo, s.done.take m, s.picks⟩ v5 v6 (.slice a m c) := by
  subst hn
  refine ⟨h.below, h.r5, h.r6, ?_⟩
  have := own_takeP (m := m) h.r7 hm h0
  have e : (s.done.take m).length = m := by simp; omega
  show W.ownsRow w.heap.size 3 1 (.slice a m c) (s.done.take m).length (encIR (s.done.take m))
  rw [e, encIR, List.map_take]
  rwa [Nat.mul_one] at this

/-- what holds at each step -/
structure StI (s fin : M.Sk) : Prop where
  reach : ∃ k, M.Reach s fin k
  wf : M.WF s.todo.reverse s.done.length
  bnd : ∀ x ∈ s.todo, M.Bnd x
  dl : s.done.length ≤ s.nodes.length
theorem StI.step {s fin : M.Sk} (h : StI s fin) (hfin : fin.todo = []) {td : List M.Spn} {t : M.Spn} (ht : s.todo = td ++ [t]) : StI (M.stepS s t td) fin := by
  obtain ⟨k, hk⟩ := h.reach
  refine ⟨hk.step hfin td t ht, M.wf_step s t td (by rw [← ht]; exact h.wf), M.bnd_step s t td (by rw [← ht]; exact h.bnd), ?_⟩
  have := h.dl
  unfold M.stepS
  by_cases h1 : t.up = true
  · rw [if_pos h1]; simp; omega
  · rw [if_neg h1]
    by_cases h2 : t.n = 1
    · rw [if_pos h2]; simp; omega
    · rw [if_neg h2]; exact this

theorem ints_drop1 {w : World} {b off n c : Nat} {x : Int} {ps : List Int} (h : IntsAt w (.slice (some ⟨b, off, none⟩) (ps.length + 1) c) (x :: ps)) : IntsAt w (.slice (some ⟨b, off + 1, none⟩) ps.length (c - 1)) ps := by
  obtain ⟨a', c', e, hn, h⟩ := h
  cases e
  refine ⟨_, _, rfl, by simp only [List.length_cons] at hn; omega, ?_⟩
  rcases h with h | ⟨b', off', e, h⟩
  · simp at h
  · cases e
    refine .inr ⟨b, off + 1, rfl, fun j i hj hi => ?_⟩
    have := h (j + 1) i (by simp; omega) hi
    rw [show off + (j + 1) * 1 + i = off + 1 + j * 1 + i by omega] at this
    rw [this]
    simp

set_option maxHeartbeats 16000000 in
set_option maxRecDepth 100000 in
theorem planned_any (np : Nat) (picks : List Int) (pa0 : Option Addr) (pc0 : Nat) (w : World) (hp : IntsAt w (.slice pa0 picks.length pc0) picks) (hcap : picks.length ≤ pc0) (h1 : 1 ≤ np) (h12 : np ≤ 12) (hp23 : picks.length ≤ 23) :
    Calls Tryz.prog 11 #[.int .i64 np, .slice pa0 picks.length pc0] w fun e w' => Below w.heap.size w w' ∧ ∃ a c, e = .returned (.slice a (M.makeL np picks).length c) ∧ NodesAt w' (.slice a (M.makeL np picks).length c) (M.makeL np picks) := by
  obtain ⟨i1, hi1, hq0, hq1, hq2⟩ := info_parts (P := Tryz.prog) (e := 3) (z := .int .i64 0) (size := 1) (bytes := 8) (by kernel_rfl)
  obtain ⟨i2, hi2, hs0, hs1, hs2⟩ := info_parts (P := Tryz.prog) (e := 62) (z := .agg #[.int .i64 0, .int .i64 0, .bool false, .int .i64 0]) (size := 4) (bytes := 32) (by kernel_rfl)
  obtain ⟨i3, hi3, hn0, hn1, hn2⟩ := info_parts (P := Tryz.prog) (e := 37) (z := .agg #[.int .i64 0, .int .i64 0, .int .i64 0]) (size := 3) (bytes := 24) (by kernel_rfl)
  obtain ⟨k0, hreach⟩ := M.reach_span np np 0 [] [] [] picks h1 (Nat.le_refl _)
  simp only [List.nil_append, List.length_nil, Nat.zero_add] at hreach
  have hN : (M.growT np 0 np picks 0).1.length + 1 = 2 * np := M.t_size (M.makeL_t np picks h1)
  have HMk : Hid (M.makeL np picks = (M.growT np 0 np picks 0).1) := rfl
  rw [HMk.out]
  generalize M.growT np 0 np picks 0 = G at *
  obtain ⟨gl, gps⟩ := G
  simp only at hreach hN ⊢
  generalize hfd : [((gl.length - 1 : Nat) : Int)] = fd at hreach
  have HSt0 : Hid (StI ⟨[], [⟨0, np, false, 0⟩], [], picks⟩ ⟨gl, [], fd, gps⟩) := ⟨⟨k0, hreach⟩, by simp [M.WF], fun x hx => by
    rw [List.mem_singleton.1 hx]; intro _; simp only; omega, Nat.le_refl _⟩
  have HPk0 : Hid (∀ W, Below w.heap.size w W → IntsAt W (.slice pa0 picks.length pc0) picks) := fun W hW => hp.later hW
  clear hreach hp hfd HMk
  go_enter Tryz.func11, Tryz.ntmps11
  go_upto_region 4 with fail
  have HR0 : Hid (PlR w (w.alloc (.cells #[.int .i64 0, .int .i64 np, .bool false, .int .i64 0] 62)) ⟨[], [⟨0, np, false, 0⟩], [], picks⟩ (.slice none 0 0) (.slice (some ⟨w.heap.size, 0, none⟩) 1 1) (.slice none 0 0)) := ⟨(Below.refl _ _).alloc (Nat.le_refl _) _, World.ownsRow_nil _ _ _ _, ⟨rfl, .inr ⟨w.heap.size, 1, _, rfl, Nat.le_refl _, heap_alloc_new _ _, Nat.le_refl _, by unfold maxLen; omega, rfl, rfl⟩⟩, World.ownsRow_nil _ _ _ _⟩
  go_loopw [1, 5, 6, 7] (fun s1 s5 s6 s7 wr => ∃ (s : M.Sk) (pa : Option Addr) (pc : Nat), s1 = .slice pa s.picks.length pc ∧ s.picks.length ≤ pc ∧ Hid (∀ W, Below w.heap.size w W → IntsAt W (.slice pa s.picks.length pc) s.picks) ∧ Hid (PlR w wr s s5 s6 s7) ∧ Hid (StI s ⟨gl, [], fd, gps⟩)) (fun _ s5 s6 _ _ => 2 * (gl.length - lenOf s5) - lenOf s6)
  case atStart => exact ⟨⟨[], [⟨0, np, false, 0⟩], [], picks⟩, pa0, pc0, rfl, hcap, HPk0, HR0, HSt0⟩
  case round =>
    obtain ⟨⟨nodes, todo, done, ps⟩, pa, pc, rfl, hpc, HPk, HR, HSt⟩ := hrel
    clear HSt0 HPk0 HR0
    simp only at hpc HPk ⊢
    obtain ⟨a5, c5, e5⟩ := own_len HR.out.r5
    obtain ⟨a6, c6, e6⟩ := own_len HR.out.r6
    obtain ⟨a7, c7, e7⟩ := own_len HR.out.r7
    simp only at e5 e6 e7
    subst e5
    subst e6
    subst e7
    have hphi : nodes.length + todo.length ≤ gl.length := by
      obtain ⟨k, hk⟩ := HSt.out.reach
      have := hk.phi
      simpa [M.phi] using this
    have hdl : done.length ≤ nodes.length := HSt.out.dl
    have hc7 : done.length ≤ c7 := own_capP HR.out.r7
    rcases List.eq_nil_or_concat todo with rfl | ⟨td, t, htd⟩
    · have hEnd : (⟨nodes, [], done, ps⟩ : M.Sk) = ⟨gl, [], fd, gps⟩ := by
        obtain ⟨k, hk⟩ := HSt.out.reach
        exact hk.done rfl
      cases hEnd
      have HO : Hid (NodesAt wr (.slice a5 gl.length c5) gl) := row_nodes HR.out.r5
      go_wp2_with fail
      go_ret
      exact ⟨HR.out.below, a5, c5, rfl, HO.out⟩
    · rw [List.concat_eq_append] at htd
      subst htd
      have hlen : (td ++ [t]).length = td.length + 1 := by simp
      rw [hlen] at HR hphi ⊢
      obtain ⟨st, sn, up, sl⟩ := t
      have hc6 : td.length + 1 ≤ c6 := by
        have := HR.out.r6
        rw [show (⟨nodes, td ++ [⟨st, sn, up, sl⟩], done, ps⟩ : M.Sk).todo.length = td.length + 1 by simp] at this
        exact own_capP this
      have hRow := row_slice (k := 4) (⟨0, 0, false, 0⟩ : M.Spn) encSp (fun _ => rfl) (td ++ [⟨st, sn, up, sl⟩]) (by simpa using HR.out.r6)
      rw [hlen] at hRow
      obtain ⟨b6, o6, ha6, hce⟩ := hRow.at td.length (by omega)
      have hgt : (td ++ [(⟨st, sn, up, sl⟩ : M.Spn)]).getD td.length ⟨0, 0, false, 0⟩ = ⟨st, sn, up, sl⟩ := by rw [List.getD_eq_getElem?_getD]; simp
      have e0 := hce 0 (by decide)
      have e1 := hce 1 (by decide)
      have e2 := hce 2 (by decide)
      have e3 := hce 3 (by decide)
      rw [hgt] at e0 e1 e2 e3
      simp only [encSp, List.getD_cons_zero, List.getD_cons_succ, Nat.add_zero] at e0 e1 e2 e3
      have HSt1 : Hid (StI (M.stepS ⟨nodes, td ++ [⟨st, sn, up, sl⟩], done, ps⟩ ⟨st, sn, up, sl⟩ td) ⟨gl, [], fd, gps⟩) := HSt.out.step rfl rfl
      have hbn := HSt.out.bnd ⟨st, sn, up, sl⟩ (by simp)
      have hwf := HSt.out.wf
      simp only [List.reverse_append, List.reverse_cons, List.reverse_nil, List.nil_append, List.cons_append, M.WF] at hwf
      have lb6 : b6 < wr.heap.size := World.block_lt_of_cell? _ _ e0
      have hsub : ((td.length + 1 : Nat) : Int) - 1 = (td.length : Int) := by omega
      have hsub2 : (td.length : Int) + 1 - 1 = (td.length : Int) := by omega
      have htl0 : (0 : Int) ≤ (td.length : Int) := by omega
      have htl1 : (td.length : Int) < ((td.length + 1 : Nat) : Int) := by omega
      have htl2 : (td.length : Int) ≤ (c6 : Int) := by omega
      have hpos : (0 : Int) < ((td.length + 1 : Nat) : Int) := by omega
      unfold M.Bnd at hbn
      simp only at hbn
      subst ha6
      clear hRow hce hgt HSt
      go_upto_region 14 with fail
      have hA1 : Below wr.heap.size wr (wr.alloc (.cells #[.int .i64 st, .int .i64 sn, .bool up, .int .i64 sl] 62)) := (Below.refl _ _).alloc (Nat.le_refl _) _
      have p1 := heap_alloc_new wr (.cells #[.int .i64 st, .int .i64 sn, .bool up, .int .i64 sl] 62)
      replace HR : Hid (PlR w (wr.alloc (.cells #[.int .i64 st, .int .i64 sn, .bool up, .int .i64 sl] 62)) ⟨nodes, td, done, ps⟩ (.slice a5 nodes.length c5) (.slice (some ⟨b6, o6, none⟩) td.length c6) (.slice a7 done.length c7)) := (PlR.pop6 HR.out).later hA1
      clear e0 e1 e2 e3 hA1 hlen lb6 hsub hsub2 htl0 htl1 htl2 hpos
      generalize wr.alloc (.cells #[.int .i64 st, .int .i64 sn, .bool up, .int .i64 sl] 62) = X at *
      generalize wr.heap.size = nb at *
      obtain ⟨a6, ha6⟩ : ∃ a6, a6 = some (⟨b6, o6, none⟩ : Addr) := ⟨_, rfl⟩
      rw [← ha6] at HR ⊢
      clear ha6
      have lX : nb < X.heap.size := (Array.getElem?_eq_some_iff.1 p1).1
      have k0 : X.cell? ⟨nb, 0, none⟩ = some (.int .i64 st) := cellB p1 0
      have k1 : X.cell? ⟨nb, 1, none⟩ = some (.int .i64 sn) := cellB p1 1
      have k2 : X.cell? ⟨nb, 2, none⟩ = some (.bool up) := cellB p1 2
      have hwX : w.heap.size ≤ X.heap.size := HR.out.below.size
      cases up
      · obtain ⟨hst0, hsn1, hsn12⟩ := hbn rfl
        by_cases hn1 : sn = 1
        · have hn1' : (sn == 1) = true := by rw [beq_iff_eq]; exact hn1
          have HS2 : Hid (M.stepS ⟨nodes, td ++ [⟨st, sn, false, sl⟩], done, ps⟩ ⟨st, sn, false, sl⟩ td = ⟨nodes ++ [⟨st, 0, 0⟩], td, done ++ [(nodes.length : Int)], ps⟩) := by simp [Hid, M.stepS, hn1]
          have hr7 := HR.out.r7
          clear hn1 hwf
          go_upto_region 20 with (at_builtin; refine wpList_append_own _ rfl _ _ 24 rfl w.heap.size 3 i1 (.int .i64 0) 1 8 Tryz.underlying24 hi1 hq0 hq1 hq2 rfl (by decide) _ _ _ rfl (hr7.alloc _) ⟨X.heap.size, 0, none⟩ 1 1 [.int .i64 nodes.length] rfl rfl (cell_one_new _ _ _) (fun u hu => by simp at hu; subst hu; rfl) (by unfold maxLen; simp only; omega) (by simp only; omega) (by simp; omega) ?_; intro v' w3 ho3 hg3 hnil3; obtain ⟨x3, y3, rfl⟩ := own_len ho3)
          have hA3 : Below X.heap.size X (X.alloc (.cells #[.int .i64 nodes.length] 3)) := (Below.refl _ _).alloc (Nat.le_refl _) _
          have HR3 : Hid (PlR w w3 ⟨nodes, td, done ++ [(nodes.length : Int)], ps⟩ (.slice a5 nodes.length c5) (.slice a6 td.length c6) (.slice x3 (done.length + 1) y3)) := (HR.out.later hA3).to7 hg3 ho3
          have p3 := block_keptP (hr7.alloc _) hg3 ((hA3.block _ lX).trans p1) (by decide)
          have j0 : w3.cell? ⟨nb, 0, none⟩ = some (.int .i64 st) := cellB p3 0
          have l3 : nb < w3.heap.size := (Array.getElem?_eq_some_iff.1 p3).1
          have hr5 := HR3.out.r5
          have hw3 : w.heap.size ≤ w3.heap.size := HR3.out.below.size
          have hnews : ∀ j u, (#[.int .i64 st, .int .i64 0, .int .i64 0] : Array Value).toList[j]? = some u → (w3.alloc (.cells #[.int .i64 st, .int .i64 0, .int .i64 0] 37)).cell? ((⟨w3.heap.size, 0, none⟩ : Addr).add j) = some u := World.news_of_block (heap_alloc_new w3 _)
          have hA4 : Below w3.heap.size w3 (w3.alloc (.cells #[.int .i64 st, .int .i64 0, .int .i64 0] 37)) := (Below.refl _ _).alloc (Nat.le_refl _) _
          have HR4 : Hid (PlR w (w3.alloc (.cells #[.int .i64 st, .int .i64 0, .int .i64 0] 37)) ⟨nodes, td, done ++ [(nodes.length : Int)], ps⟩ (.slice a5 nodes.length c5) (.slice a6 td.length c6) (.slice x3 (done.length + 1) y3)) := HR3.out.later hA4
          clear k0 k1 k2 hr7 ho3 hg3 hnil3 p1 p3 hA3 hA4 HR HR3 lX hwX
          go_wp2_with (at_builtin; refine wpList_append_own _ rfl _ _ 22 rfl w.heap.size 37 i3 (.agg #[.int .i64 0, .int .i64 0, .int .i64 0]) 3 24 Tryz.underlying22 hi3 hn0 hn1 hn2 rfl (by decide) _ _ _ rfl (hr5.alloc _) ⟨w3.heap.size, 0, none⟩ 1 1 (#[.int .i64 st, .int .i64 0, .int .i64 0] : Array Value).toList rfl rfl hnews (fun u hu => by simp at hu; rcases hu with rfl | rfl <;> rfl) (by unfold maxLen; simp only; omega) (by simp only; omega) (by simp; omega) ?_; intro v' w4 ho4 hg4 hnil4; obtain ⟨x4, y4, rfl⟩ := own_len ho4)
          go_roundw
          case rel =>
            refine ⟨M.stepS ⟨nodes, td ++ [⟨st, sn, false, sl⟩], done, ps⟩ ⟨st, sn, false, sl⟩ td, pa, pc, ?_⟩
            rw [HS2.out]
            exact ⟨rfl, hpc, HPk, HR4.out.to5 hg4 ho4, by rw [← HS2.out]; exact HSt1.out⟩
          case measure => simp [lenOf]; omega
        · have hn1' : (sn == 1) = false := by rw [beq_eq_false_iff_ne]; exact hn1
          have hd0 : (sn - 1 == 0) = false := by rw [beq_eq_false_iff_ne]; omega
          obtain ⟨kk, ps2, hpk⟩ : ∃ kk ps2, M.pick ps (sn - 1) = (kk, ps2) := ⟨_, _, rfl⟩
          have hkb := M.pick_lt ps (sn - 1) (by omega)
          rw [hpk] at hkb
          simp only at hkb
          have hkb0 := hkb.1
          have hkb1 := hkb.2
          have HS2 : Hid (M.stepS ⟨nodes, td ++ [⟨st, sn, false, sl⟩], done, ps⟩ ⟨st, sn, false, sl⟩ td = ⟨nodes, td ++ [⟨0, 0, true, 0⟩, ⟨st + kk + 1, sn - kk - 1, false, 0⟩, ⟨st, kk + 1, false, 0⟩], done, ps2⟩) := by simp [Hid, M.stepS, hn1, hpk]
          clear hwf hkb
          cases ps with
          | nil =>
            have hkk : kk = 0 ∧ ps2 = [] := by simp [M.pick] at hpk; exact ⟨hpk.1.symm, hpk.2⟩
            obtain ⟨rfl, rfl⟩ := hkk
            have htm : (0 : Int).tmod (sn - 1) = 0 := Int.zero_tmod _
            have hem : (0 : Int) % (sn - 1) = 0 := Int.zero_emod _
            have HPk2 : Hid (∀ W, Below w.heap.size w W → IntsAt W (.slice pa ([] : List Int).length pc) []) := HPk
            have hpc2 : ([] : List Int).length ≤ pc := hpc
            clear hpk hn1 hpc HPk
            have HS3 : Hid (M.stepS ⟨nodes, td ++ [⟨st, sn, false, sl⟩], done, []⟩ ⟨st, sn, false, sl⟩ td = ⟨nodes, td ++ [⟨0, 0, true, 0⟩, ⟨st + 1, sn - 1, false, 0⟩, ⟨st, 1, false, 0⟩], done, []⟩) := by
              have h := HS2.out
              rw [Int.add_zero, Int.sub_zero, Int.zero_add] at h
              exact h
            replace HS2 := HS3
            clear HS3
            go_upto_region 13 with fail
            -- three are to be done
            have HI3 : Hid (PlR w (X.alloc (.cells #[.int .i64 0, .int .i64 0, .bool true, .int .i64 0, .int .i64 (st + 1), .int .i64 (sn - 1), .bool false, .int .i64 0, .int .i64 st, .int .i64 1, .bool false, .int .i64 0] 62)) ⟨nodes, td, done, []⟩ (.slice a5 nodes.length c5) (.slice a6 td.length c6) (.slice a7 done.length c7)) := by
              have h := HR.out.later ((Below.refl _ _).alloc (Nat.le_refl _) (.cells #[.int .i64 0, .int .i64 0, .bool true, .int .i64 0, .int .i64 (st + 1), .int .i64 (sn - 1), .bool false, .int .i64 0, .int .i64 st, .int .i64 1, .bool false, .int .i64 0] 62))
              exact ⟨h.below, h.r5, h.r6, h.r7⟩
            have hrow6 := HI3.out.r6
            have hnews : ∀ j u, (#[.int .i64 0, .int .i64 0, .bool true, .int .i64 0, .int .i64 (st + 1), .int .i64 (sn - 1), .bool false, .int .i64 0, .int .i64 st, .int .i64 1, .bool false, .int .i64 0] : Array Value).toList[j]? = some u → (X.alloc (.cells #[.int .i64 0, .int .i64 0, .bool true, .int .i64 0, .int .i64 (st + 1), .int .i64 (sn - 1), .bool false, .int .i64 0, .int .i64 st, .int .i64 1, .bool false, .int .i64 0] 62)).cell? ((⟨X.heap.size, 0, none⟩ : Addr).add j) = some u := World.news_of_block (heap_alloc_new X _)
            have hone : ∀ u ∈ (#[.int .i64 0, .int .i64 0, .bool true, .int .i64 0, .int .i64 (st + 1), .int .i64 (sn - 1), .bool false, .int .i64 0, .int .i64 st, .int .i64 1, .bool false, .int .i64 0] : Array Value).toList, u.oneCell' = true := fun u hu => by
              change u ∈ [Value.int .i64 0, .int .i64 0, .bool true, .int .i64 0, .int .i64 (st + 1), .int .i64 (sn - 1), .bool false, .int .i64 0, .int .i64 st, .int .i64 1, .bool false, .int .i64 0] at hu
              simp only [List.mem_cons, List.not_mem_nil, or_false] at hu
              rcases hu with rfl | rfl | rfl | rfl | rfl | rfl | rfl | rfl | rfl | rfl | rfl | rfl <;> rfl
            have hwX3 : w.heap.size ≤ (X.alloc (.cells #[.int .i64 0, .int .i64 0, .bool true, .int .i64 0, .int .i64 (st + 1), .int .i64 (sn - 1), .bool false, .int .i64 0, .int .i64 st, .int .i64 1, .bool false, .int .i64 0] 62)).heap.size := HI3.out.below.size
            go_wp2_with (at_builtin; refine wpList_append_own _ rfl _ _ 63 rfl w.heap.size 62 i2 (.agg #[.int .i64 0, .int .i64 0, .bool false, .int .i64 0]) 4 32 Tryz.underlying63 hi2 hs0 hs1 hs2 rfl (by decide) _ _ _ rfl hrow6 ⟨X.heap.size, 0, none⟩ 3 3 (#[.int .i64 0, .int .i64 0, .bool true, .int .i64 0, .int .i64 (st + 1), .int .i64 (sn - 1), .bool false, .int .i64 0, .int .i64 st, .int .i64 1, .bool false, .int .i64 0] : Array Value).toList rfl rfl hnews hone (by unfold maxLen; simp only; omega) (by simp only; omega) hwX3 ?_; intro v' w3 ho3 hg3 hnil3; obtain ⟨x3, y3, rfl⟩ := own_len ho3)
            go_roundw
            case rel =>
              refine ⟨M.stepS ⟨nodes, td ++ [⟨st, sn, false, sl⟩], done, []⟩ ⟨st, sn, false, sl⟩ td, pa, pc, ?_⟩
              rw [HS2.out]
              exact ⟨rfl, hpc2, HPk2, HI3.out.to6 (ts := [⟨0, 0, true, 0⟩, ⟨(st + 1), (sn - 1), false, 0⟩, ⟨st, 1, false, 0⟩]) hg3 ho3, by rw [← HS2.out]; exact HSt1.out⟩
            case measure => simp [lenOf]; omega
          | cons x ps =>
            have hps2 : ps2 = ps := by simp [M.pick] at hpk; exact hpk.2.symm
            have hkx : x % (sn - 1) = kk := by simp [M.pick] at hpk; exact hpk.1
            subst hps2
            have HM : x % (sn - 1) = if x.tmod (sn - 1) < 0 then x.tmod (sn - 1) + (sn - 1) else x.tmod (sn - 1) := tmod_emod x (sn - 1) (by omega)
            have hIp := HPk.out X HR.out.below
            obtain ⟨bp, op, hpa, dp, lbp⟩ := hIp.cell 0 (by simp)
            subst hpa
            rw [Nat.add_zero] at dp
            replace dp : X.cell? ⟨bp, op, none⟩ = some (.int .i64 x) := dp
            rw [show (x :: ps2).length = ps2.length + 1 from rfl] at hpc ⊢
            have hpos : (0 : Int) < ((ps2.length + 1 : Nat) : Int) := by omega
            have hpos1 : (1 : Int) ≤ ((ps2.length + 1 : Nat) : Int) := by omega
            have hr : -100 ≤ x.tmod (sn - 1) ∧ x.tmod (sn - 1) ≤ 100 := by
              have h2 : (x.tmod (sn - 1)).natAbs < (sn - 1).natAbs := by
                rw [Int.natAbs_tmod]
                exact Nat.mod_lt _ (by omega)
              omega
            have hpm : ps2.length + 1 ≤ 2 ^ 63 - 1 := by
              obtain ⟨_, _, _, h⟩ := SlAt.form hIp
              simpa [maxLen] using h
            clear hpk hn1 hIp
            by_cases hpc1 : pc = 1
            · subst hpc1
              have hps0 : ps2 = [] := List.length_eq_zero_iff.1 (by omega)
              subst hps0
              have HPk2 : Hid (∀ W, Below w.heap.size w W → IntsAt W (.slice (some ⟨bp, op, none⟩) ([] : List Int).length 0) []) := fun W _ => ⟨_, _, rfl, Nat.zero_le _, .inl rfl⟩
              clear HPk
              go_upto_region 9 with fail
              go_region
              all_goals
                have HRD : Hid (PlR w X.drew ⟨nodes, td, done, [x]⟩ (.slice a5 nodes.length c5) (.slice a6 td.length c6) (.slice a7 done.length c7)) := HR.out.later (Below.refl _ _).drew
                have g0 : X.drew.cell? ⟨nb, 0, none⟩ = some (.int .i64 st) := k0
                have g1 : X.drew.cell? ⟨nb, 1, none⟩ = some (.int .i64 sn) := k1
                have gl' : nb < X.drew.heap.size := lX
                clear HR k0 k1 k2 p1 lX dp lbp hwX
                generalize X.drew = D at *
                have HR := HRD
                clear HRD
                by_cases hneg : x.tmod (sn - 1) < 0
                · obtain ⟨rr, hrr⟩ : ∃ rr, x.tmod (sn - 1) = rr := ⟨_, rfl⟩
                  rw [if_pos hneg, hkx, hrr] at HM
                  rw [hrr] at hr hneg
                  have hadd : rr + (sn - 1) = kk := HM.symm
                  clear HM
                  go_upto_region 13 with fail
                  -- three are to be done
                  have HI3 : Hid (PlR w (D.alloc (.cells #[.int .i64 0, .int .i64 0, .bool true, .int .i64 0, .int .i64 (st + kk + 1), .int .i64 (sn - kk - 1), .bool false, .int .i64 0, .int .i64 st, .int .i64 (kk + 1), .bool false, .int .i64 0] 62)) ⟨nodes, td, done, []⟩ (.slice a5 nodes.length c5) (.slice a6 td.length c6) (.slice a7 done.length c7)) := by
                    have h := HR.out.later ((Below.refl _ _).alloc (Nat.le_refl _) (.cells #[.int .i64 0, .int .i64 0, .bool true, .int .i64 0, .int .i64 (st + kk + 1), .int .i64 (sn - kk - 1), .bool false, .int .i64 0, .int .i64 st, .int .i64 (kk + 1), .bool false, .int .i64 0] 62))
                    exact ⟨h.below, h.r5, h.r6, h.r7⟩
                  have hrow6 := HI3.out.r6
                  have hnews : ∀ j u, (#[.int .i64 0, .int .i64 0, .bool true, .int .i64 0, .int .i64 (st + kk + 1), .int .i64 (sn - kk - 1), .bool false, .int .i64 0, .int .i64 st, .int .i64 (kk + 1), .bool false, .int .i64 0] : Array Value).toList[j]? = some u → (D.alloc (.cells #[.int .i64 0, .int .i64 0, .bool true, .int .i64 0, .int .i64 (st + kk + 1), .int .i64 (sn - kk - 1), .bool false, .int .i64 0, .int .i64 st, .int .i64 (kk + 1), .bool false, .int .i64 0] 62)).cell? ((⟨D.heap.size, 0, none⟩ : Addr).add j) = some u := World.news_of_block (heap_alloc_new D _)
                  have hone : ∀ u ∈ (#[.int .i64 0, .int .i64 0, .bool true, .int .i64 0, .int .i64 (st + kk + 1), .int .i64 (sn - kk - 1), .bool false, .int .i64 0, .int .i64 st, .int .i64 (kk + 1), .bool false, .int .i64 0] : Array Value).toList, u.oneCell' = true := fun u hu => by
                    change u ∈ [Value.int .i64 0, .int .i64 0, .bool true, .int .i64 0, .int .i64 (st + kk + 1), .int .i64 (sn - kk - 1), .bool false, .int .i64 0, .int .i64 st, .int .i64 (kk + 1), .bool false, .int .i64 0] at hu
                    simp only [List.mem_cons, List.not_mem_nil, or_false] at hu
                    rcases hu with rfl | rfl | rfl | rfl | rfl | rfl | rfl | rfl | rfl | rfl | rfl | rfl <;> rfl
                  have hwX3 : w.heap.size ≤ (D.alloc (.cells #[.int .i64 0, .int .i64 0, .bool true, .int .i64 0, .int .i64 (st + kk + 1), .int .i64 (sn - kk - 1), .bool false, .int .i64 0, .int .i64 st, .int .i64 (kk + 1), .bool false, .int .i64 0] 62)).heap.size := HI3.out.below.size
                  go_wp2_with (at_builtin; refine wpList_append_own _ rfl _ _ 63 rfl w.heap.size 62 i2 (.agg #[.int .i64 0, .int .i64 0, .bool false, .int .i64 0]) 4 32 Tryz.underlying63 hi2 hs0 hs1 hs2 rfl (by decide) _ _ _ rfl hrow6 ⟨D.heap.size, 0, none⟩ 3 3 (#[.int .i64 0, .int .i64 0, .bool true, .int .i64 0, .int .i64 (st + kk + 1), .int .i64 (sn - kk - 1), .bool false, .int .i64 0, .int .i64 st, .int .i64 (kk + 1), .bool false, .int .i64 0] : Array Value).toList rfl rfl hnews hone (by unfold maxLen; simp only; omega) (by simp only; omega) hwX3 ?_; intro v' w3 ho3 hg3 hnil3; obtain ⟨x3, y3, rfl⟩ := own_len ho3)
                  go_roundw
                  case rel =>
                    refine ⟨M.stepS ⟨nodes, td ++ [⟨st, sn, false, sl⟩], done, (x :: [])⟩ ⟨st, sn, false, sl⟩ td, some ⟨bp, op, none⟩, 0, ?_⟩
                    rw [HS2.out]
                    exact ⟨rfl, Nat.le_refl _, HPk2, HI3.out.to6 (ts := [⟨0, 0, true, 0⟩, ⟨(st + kk + 1), (sn - kk - 1), false, 0⟩, ⟨st, (kk + 1), false, 0⟩]) hg3 ho3, by rw [← HS2.out]; exact HSt1.out⟩
                  case measure => simp [lenOf]; omega
                · have hrr : x.tmod (sn - 1) = kk := by rw [if_neg hneg, hkx] at HM; exact HM.symm
                  have hneg' : ¬ kk < 0 := by omega
                  clear HM hneg hr
                  go_upto_region 13 with fail
                  -- three are to be done
                  have HI3 : Hid (PlR w (D.alloc (.cells #[.int .i64 0, .int .i64 0, .bool true, .int .i64 0, .int .i64 (st + kk + 1), .int .i64 (sn - kk - 1), .bool false, .int .i64 0, .int .i64 st, .int .i64 (kk + 1), .bool false, .int .i64 0] 62)) ⟨nodes, td, done, []⟩ (.slice a5 nodes.length c5) (.slice a6 td.length c6) (.slice a7 done.length c7)) := by
                    have h := HR.out.later ((Below.refl _ _).alloc (Nat.le_refl _) (.cells #[.int .i64 0, .int .i64 0, .bool true, .int .i64 0, .int .i64 (st + kk + 1), .int .i64 (sn - kk - 1), .bool false, .int .i64 0, .int .i64 st, .int .i64 (kk + 1), .bool false, .int .i64 0] 62))
                    exact ⟨h.below, h.r5, h.r6, h.r7⟩
                  have hrow6 := HI3.out.r6
                  have hnews : ∀ j u, (#[.int .i64 0, .int .i64 0, .bool true, .int .i64 0, .int .i64 (st + kk + 1), .int .i64 (sn - kk - 1), .bool false, .int .i64 0, .int .i64 st, .int .i64 (kk + 1), .bool false, .int .i64 0] : Array Value).toList[j]? = some u → (D.alloc (.cells #[.int .i64 0, .int .i64 0, .bool true, .int .i64 0, .int .i64 (st + kk + 1), .int .i64 (sn - kk - 1), .bool false, .int .i64 0, .int .i64 st, .int .i64 (kk + 1), .bool false, .int .i64 0] 62)).cell? ((⟨D.heap.size, 0, none⟩ : Addr).add j) = some u := World.news_of_block (heap_alloc_new D _)
                  have hone : ∀ u ∈ (#[.int .i64 0, .int .i64 0, .bool true, .int .i64 0, .int .i64 (st + kk + 1), .int .i64 (sn - kk - 1), .bool false, .int .i64 0, .int .i64 st, .int .i64 (kk + 1), .bool false, .int .i64 0] : Array Value).toList, u.oneCell' = true := fun u hu => by
                    change u ∈ [Value.int .i64 0, .int .i64 0, .bool true, .int .i64 0, .int .i64 (st + kk + 1), .int .i64 (sn - kk - 1), .bool false, .int .i64 0, .int .i64 st, .int .i64 (kk + 1), .bool false, .int .i64 0] at hu
                    simp only [List.mem_cons, List.not_mem_nil, or_false] at hu
                    rcases hu with rfl | rfl | rfl | rfl | rfl | rfl | rfl | rfl | rfl | rfl | rfl | rfl <;> rfl
                  have hwX3 : w.heap.size ≤ (D.alloc (.cells #[.int .i64 0, .int .i64 0, .bool true, .int .i64 0, .int .i64 (st + kk + 1), .int .i64 (sn - kk - 1), .bool false, .int .i64 0, .int .i64 st, .int .i64 (kk + 1), .bool false, .int .i64 0] 62)).heap.size := HI3.out.below.size
                  go_wp2_with (at_builtin; refine wpList_append_own _ rfl _ _ 63 rfl w.heap.size 62 i2 (.agg #[.int .i64 0, .int .i64 0, .bool false, .int .i64 0]) 4 32 Tryz.underlying63 hi2 hs0 hs1 hs2 rfl (by decide) _ _ _ rfl hrow6 ⟨D.heap.size, 0, none⟩ 3 3 (#[.int .i64 0, .int .i64 0, .bool true, .int .i64 0, .int .i64 (st + kk + 1), .int .i64 (sn - kk - 1), .bool false, .int .i64 0, .int .i64 st, .int .i64 (kk + 1), .bool false, .int .i64 0] : Array Value).toList rfl rfl hnews hone (by unfold maxLen; simp only; omega) (by simp only; omega) hwX3 ?_; intro v' w3 ho3 hg3 hnil3; obtain ⟨x3, y3, rfl⟩ := own_len ho3)
                  go_roundw
                  case rel =>
                    refine ⟨M.stepS ⟨nodes, td ++ [⟨st, sn, false, sl⟩], done, (x :: [])⟩ ⟨st, sn, false, sl⟩ td, some ⟨bp, op, none⟩, 0, ?_⟩
                    rw [HS2.out]
                    exact ⟨rfl, Nat.le_refl _, HPk2, HI3.out.to6 (ts := [⟨0, 0, true, 0⟩, ⟨(st + kk + 1), (sn - kk - 1), false, 0⟩, ⟨st, (kk + 1), false, 0⟩]) hg3 ho3, by rw [← HS2.out]; exact HSt1.out⟩
                  case measure => simp [lenOf]; omega
            · have HPk2 : Hid (∀ W, Below w.heap.size w W → IntsAt W (.slice (some ⟨bp, op + 1, none⟩) ps2.length (pc - 1)) ps2) := fun W hW => ints_drop1 (n := 0) (HPk.out W hW)
              have hpc2 : ps2.length ≤ pc - 1 := by omega
              clear HPk
              go_upto_region 9 with fail
              go_region
              all_goals
                have HRD : Hid (PlR w X.drew ⟨nodes, td, done, x :: ps2⟩ (.slice a5 nodes.length c5) (.slice a6 td.length c6) (.slice a7 done.length c7)) := HR.out.later (Below.refl _ _).drew
                have g0 : X.drew.cell? ⟨nb, 0, none⟩ = some (.int .i64 st) := k0
                have g1 : X.drew.cell? ⟨nb, 1, none⟩ = some (.int .i64 sn) := k1
                have gl' : nb < X.drew.heap.size := lX
                clear HR k0 k1 k2 p1 lX dp lbp hwX
                generalize X.drew = D at *
                have HR := HRD
                clear HRD
                by_cases hneg : x.tmod (sn - 1) < 0
                · obtain ⟨rr, hrr⟩ : ∃ rr, x.tmod (sn - 1) = rr := ⟨_, rfl⟩
                  rw [if_pos hneg, hkx, hrr] at HM
                  rw [hrr] at hr hneg
                  have hadd : rr + (sn - 1) = kk := HM.symm
                  clear HM
                  go_upto_region 13 with fail
                  -- three are to be done
                  have HI3 : Hid (PlR w (D.alloc (.cells #[.int .i64 0, .int .i64 0, .bool true, .int .i64 0, .int .i64 (st + kk + 1), .int .i64 (sn - kk - 1), .bool false, .int .i64 0, .int .i64 st, .int .i64 (kk + 1), .bool false, .int .i64 0] 62)) ⟨nodes, td, done, ps2⟩ (.slice a5 nodes.length c5) (.slice a6 td.length c6) (.slice a7 done.length c7)) := by
                    have h := HR.out.later ((Below.refl _ _).alloc (Nat.le_refl _) (.cells #[.int .i64 0, .int .i64 0, .bool true, .int .i64 0, .int .i64 (st + kk + 1), .int .i64 (sn - kk - 1), .bool false, .int .i64 0, .int .i64 st, .int .i64 (kk + 1), .bool false, .int .i64 0] 62))
                    exact ⟨h.below, h.r5, h.r6, h.r7⟩
                  have hrow6 := HI3.out.r6
                  have hnews : ∀ j u, (#[.int .i64 0, .int .i64 0, .bool true, .int .i64 0, .int .i64 (st + kk + 1), .int .i64 (sn - kk - 1), .bool false, .int .i64 0, .int .i64 st, .int .i64 (kk + 1), .bool false, .int .i64 0] : Array Value).toList[j]? = some u → (D.alloc (.cells #[.int .i64 0, .int .i64 0, .bool true, .int .i64 0, .int .i64 (st + kk + 1), .int .i64 (sn - kk - 1), .bool false, .int .i64 0, .int .i64 st, .int .i64 (kk + 1), .bool false, .int .i64 0] 62)).cell? ((⟨D.heap.size, 0, none⟩ : Addr).add j) = some u := World.news_of_block (heap_alloc_new D _)
                  have hone : ∀ u ∈ (#[.int .i64 0, .int .i64 0, .bool true, .int .i64 0, .int .i64 (st + kk + 1), .int .i64 (sn - kk - 1), .bool false, .int .i64 0, .int .i64 st, .int .i64 (kk + 1), .bool false, .int .i64 0] : Array Value).toList, u.oneCell' = true := fun u hu => by
                    change u ∈ [Value.int .i64 0, .int .i64 0, .bool true, .int .i64 0, .int .i64 (st + kk + 1), .int .i64 (sn - kk - 1), .bool false, .int .i64 0, .int .i64 st, .int .i64 (kk + 1), .bool false, .int .i64 0] at hu
                    simp only [List.mem_cons, List.not_mem_nil, or_false] at hu
                    rcases hu with rfl | rfl | rfl | rfl | rfl | rfl | rfl | rfl | rfl | rfl | rfl | rfl <;> rfl
                  have hwX3 : w.heap.size ≤ (D.alloc (.cells #[.int .i64 0, .int .i64 0, .bool true, .int .i64 0, .int .i64 (st + kk + 1), .int .i64 (sn - kk - 1), .bool false, .int .i64 0, .int .i64 st, .int .i64 (kk + 1), .bool false, .int .i64 0] 62)).heap.size := HI3.out.below.size
                  go_wp2_with (at_builtin; refine wpList_append_own _ rfl _ _ 63 rfl w.heap.size 62 i2 (.agg #[.int .i64 0, .int .i64 0, .bool false, .int .i64 0]) 4 32 Tryz.underlying63 hi2 hs0 hs1 hs2 rfl (by decide) _ _ _ rfl hrow6 ⟨D.heap.size, 0, none⟩ 3 3 (#[.int .i64 0, .int .i64 0, .bool true, .int .i64 0, .int .i64 (st + kk + 1), .int .i64 (sn - kk - 1), .bool false, .int .i64 0, .int .i64 st, .int .i64 (kk + 1), .bool false, .int .i64 0] : Array Value).toList rfl rfl hnews hone (by unfold maxLen; simp only; omega) (by simp only; omega) hwX3 ?_; intro v' w3 ho3 hg3 hnil3; obtain ⟨x3, y3, rfl⟩ := own_len ho3)
                  go_roundw
                  case rel =>
                    refine ⟨M.stepS ⟨nodes, td ++ [⟨st, sn, false, sl⟩], done, (x :: ps2)⟩ ⟨st, sn, false, sl⟩ td, some ⟨bp, op + 1, none⟩, (pc - 1), ?_⟩
                    rw [HS2.out]
                    exact ⟨rfl, hpc2, HPk2, HI3.out.to6 (ts := [⟨0, 0, true, 0⟩, ⟨(st + kk + 1), (sn - kk - 1), false, 0⟩, ⟨st, (kk + 1), false, 0⟩]) hg3 ho3, by rw [← HS2.out]; exact HSt1.out⟩
                  case measure => simp [lenOf]; omega
                · have hrr : x.tmod (sn - 1) = kk := by rw [if_neg hneg, hkx] at HM; exact HM.symm
                  have hneg' : ¬ kk < 0 := by omega
                  clear HM hneg hr
                  go_upto_region 13 with fail
                  -- three are to be done
                  have HI3 : Hid (PlR w (D.alloc (.cells #[.int .i64 0, .int .i64 0, .bool true, .int .i64 0, .int .i64 (st + kk + 1), .int .i64 (sn - kk - 1), .bool false, .int .i64 0, .int .i64 st, .int .i64 (kk + 1), .bool false, .int .i64 0] 62)) ⟨nodes, td, done, ps2⟩ (.slice a5 nodes.length c5) (.slice a6 td.length c6) (.slice a7 done.length c7)) := by
                    have h := HR.out.later ((Below.refl _ _).alloc (Nat.le_refl _) (.cells #[.int .i64 0, .int .i64 0, .bool true, .int .i64 0, .int .i64 (st + kk + 1), .int .i64 (sn - kk - 1), .bool false, .int .i64 0, .int .i64 st, .int .i64 (kk + 1), .bool false, .int .i64 0] 62))
                    exact ⟨h.below, h.r5, h.r6, h.r7⟩
                  have hrow6 := HI3.out.r6
                  have hnews : ∀ j u, (#[.int .i64 0, .int .i64 0, .bool true, .int .i64 0, .int .i64 (st + kk + 1), .int .i64 (sn - kk - 1), .bool false, .int .i64 0, .int .i64 st, .int .i64 (kk + 1), .bool false, .int .i64 0] : Array Value).toList[j]? = some u → (D.alloc (.cells #[.int .i64 0, .int .i64 0, .bool true, .int .i64 0, .int .i64 (st + kk + 1), .int .i64 (sn - kk - 1), .bool false, .int .i64 0, .int .i64 st, .int .i64 (kk + 1), .bool false, .int .i64 0] 62)).cell? ((⟨D.heap.size, 0, none⟩ : Addr).add j) = some u := World.news_of_block (heap_alloc_new D _)
                  have hone : ∀ u ∈ (#[.int .i64 0, .int .i64 0, .bool true, .int .i64 0, .int .i64 (st + kk + 1), .int .i64 (sn - kk - 1), .bool false, .int .i64 0, .int .i64 st, .int .i64 (kk + 1), .bool false, .int .i64 0] : Array Value).toList, u.oneCell' = true := fun u hu => by
                    change u ∈ [Value.int .i64 0, .int .i64 0, .bool true, .int .i64 0, .int .i64 (st + kk + 1), .int .i64 (sn - kk - 1), .bool false, .int .i64 0, .int .i64 st, .int .i64 (kk + 1), .bool false, .int .i64 0] at hu
                    simp only [List.mem_cons, List.not_mem_nil, or_false] at hu
                    rcases hu with rfl | rfl | rfl | rfl | rfl | rfl | rfl | rfl | rfl | rfl | rfl | rfl <;> rfl
                  have hwX3 : w.heap.size ≤ (D.alloc (.cells #[.int .i64 0, .int .i64 0, .bool true, .int .i64 0, .int .i64 (st + kk + 1), .int .i64 (sn - kk - 1), .bool false, .int .i64 0, .int .i64 st, .int .i64 (kk + 1), .bool false, .int .i64 0] 62)).heap.size := HI3.out.below.size
                  go_wp2_with (at_builtin; refine wpList_append_own _ rfl _ _ 63 rfl w.heap.size 62 i2 (.agg #[.int .i64 0, .int .i64 0, .bool false, .int .i64 0]) 4 32 Tryz.underlying63 hi2 hs0 hs1 hs2 rfl (by decide) _ _ _ rfl hrow6 ⟨D.heap.size, 0, none⟩ 3 3 (#[.int .i64 0, .int .i64 0, .bool true, .int .i64 0, .int .i64 (st + kk + 1), .int .i64 (sn - kk - 1), .bool false, .int .i64 0, .int .i64 st, .int .i64 (kk + 1), .bool false, .int .i64 0] : Array Value).toList rfl rfl hnews hone (by unfold maxLen; simp only; omega) (by simp only; omega) hwX3 ?_; intro v' w3 ho3 hg3 hnil3; obtain ⟨x3, y3, rfl⟩ := own_len ho3)
                  go_roundw
                  case rel =>
                    refine ⟨M.stepS ⟨nodes, td ++ [⟨st, sn, false, sl⟩], done, (x :: ps2)⟩ ⟨st, sn, false, sl⟩ td, some ⟨bp, op + 1, none⟩, (pc - 1), ?_⟩
                    rw [HS2.out]
                    exact ⟨rfl, hpc2, HPk2, HI3.out.to6 (ts := [⟨0, 0, true, 0⟩, ⟨(st + kk + 1), (sn - kk - 1), false, 0⟩, ⟨st, (kk + 1), false, 0⟩]) hg3 ho3, by rw [← HS2.out]; exact HSt1.out⟩
                  case measure => simp [lenOf]; omega
      · have hd2 : 2 ≤ done.length := by
          rw [if_pos rfl] at hwf
          exact hwf.1
        obtain ⟨m2, hm2⟩ : ∃ m2, done.length = m2 + 2 := ⟨done.length - 2, by omega⟩
        have HS2 : Hid (M.stepS ⟨nodes, td ++ [⟨st, sn, true, sl⟩], done, ps⟩ ⟨st, sn, true, sl⟩ td = ⟨nodes ++ [⟨-1, done.getD m2 0, done.getD (m2 + 1) 0⟩], td, done.take m2 ++ [(nodes.length : Int)], ps⟩) := by
          simp only [Hid, M.stepS, if_true]
          rw [show done.length - 2 = m2 by omega, show done.length - 1 = m2 + 1 by omega]
        have hI7 := row_intsR HR.out.r7
        simp only at hI7
        obtain ⟨b7, o7, ha7, d0, lb7⟩ := IntsAt.cell hI7 m2 (by omega)
        obtain ⟨b7', o7', ha7', d1, _⟩ := IntsAt.cell hI7 (m2 + 1) (by omega)
        subst ha7
        cases ha7'
        have hs2 : (done.length : Int) - 2 = (m2 : Int) := by omega
        have hs1 : (done.length : Int) - 1 = ((m2 + 1 : Nat) : Int) := by omega
        have hi0 : (0 : Int) ≤ (m2 : Int) := by omega
        have hi1' : (m2 : Int) < (done.length : Int) := by omega
        have hj0 : (0 : Int) ≤ ((m2 + 1 : Nat) : Int) := by omega
        have hj1 : ((m2 + 1 : Nat) : Int) < (done.length : Int) := by omega
        have hmc : (m2 : Int) ≤ (c7 : Int) := by omega
        have HR7 : Hid (PlR w X ⟨nodes, td, done.take m2, ps⟩ (.slice a5 nodes.length c5) (.slice a6 td.length c6) (.slice (some ⟨b7, o7, none⟩) m2 c7)) := HR.out.pop7 rfl (by omega) (by omega)
        have e2 : (done.take m2).length = m2 := by simp; omega
        have hr7 := HR7.out.r7
        simp only [e2] at hr7
        generalize hda : done.getD m2 0 = da at *
        generalize hdb : done.getD (m2 + 1) 0 = db at *
        generalize hdt : done.take m2 = dt at *
        clear hwf hbn hI7 hda hdb k0 k1 HR
        go_upto_region 15 with fail
        go_region
        all_goals
          have HR8 : Hid (PlR w X.drew ⟨nodes, td, dt, ps⟩ (.slice a5 nodes.length c5) (.slice a6 td.length c6) (.slice (some ⟨b7, o7, none⟩) m2 c7)) := HR7.out.later (Below.refl _ _).drew
          have hr7' := HR8.out.r7
          simp only [e2] at hr7'
          have hwD : w.heap.size ≤ X.drew.heap.size := HR8.out.below.size
          clear HR7 d0 d1 k2 lX p1 hr7
          generalize X.drew = D at *
          go_upto_region 17 with (at_builtin; refine wpList_append_own _ rfl _ _ 24 rfl w.heap.size 3 i1 (.int .i64 0) 1 8 Tryz.underlying24 hi1 hq0 hq1 hq2 rfl (by decide) _ _ _ rfl (hr7'.alloc _) ⟨D.heap.size, 0, none⟩ 1 1 [.int .i64 nodes.length] rfl rfl (cell_one_new _ _ _) (fun u hu => by simp at hu; subst hu; rfl) (by unfold maxLen; omega) (by omega) (by simp; omega) ?_; intro v' w3 ho3 hg3 hnil3; obtain ⟨x3, y3, rfl⟩ := own_len ho3)
          have hA3 : Below D.heap.size D (D.alloc (.cells #[.int .i64 nodes.length] 3)) := (Below.refl _ _).alloc (Nat.le_refl _) _
          have HR3 : Hid (PlR w w3 ⟨nodes, td, dt ++ [(nodes.length : Int)], ps⟩ (.slice a5 nodes.length c5) (.slice a6 td.length c6) (.slice x3 (m2 + 1) y3)) := (HR8.out.later hA3).to7 hg3 (by simp only [e2]; exact ho3)
          have hr5 := HR3.out.r5
          have hw3 : w.heap.size ≤ w3.heap.size := HR3.out.below.size
          have hnews : ∀ j u, (#[.int .i64 (-1), .int .i64 da, .int .i64 db] : Array Value).toList[j]? = some u → (w3.alloc (.cells #[.int .i64 (-1), .int .i64 da, .int .i64 db] 37)).cell? ((⟨w3.heap.size, 0, none⟩ : Addr).add j) = some u := World.news_of_block (heap_alloc_new w3 _)
          have hA4 : Below w3.heap.size w3 (w3.alloc (.cells #[.int .i64 (-1), .int .i64 da, .int .i64 db] 37)) := (Below.refl _ _).alloc (Nat.le_refl _) _
          have HR4 : Hid (PlR w (w3.alloc (.cells #[.int .i64 (-1), .int .i64 da, .int .i64 db] 37)) ⟨nodes, td, dt ++ [(nodes.length : Int)], ps⟩ (.slice a5 nodes.length c5) (.slice a6 td.length c6) (.slice x3 (m2 + 1) y3)) := HR3.out.later hA4
          clear hr7' ho3 hg3 hnil3 hA3 hA4 HR8 HR3 hwD hwX
          go_wp2_with (at_builtin; refine wpList_append_own _ rfl _ _ 22 rfl w.heap.size 37 i3 (.agg #[.int .i64 0, .int .i64 0, .int .i64 0]) 3 24 Tryz.underlying22 hi3 hn0 hn1 hn2 rfl (by decide) _ _ _ rfl (hr5.alloc _) ⟨w3.heap.size, 0, none⟩ 1 1 (#[.int .i64 (-1), .int .i64 da, .int .i64 db] : Array Value).toList rfl rfl hnews (fun u hu => by simp at hu; rcases hu with rfl | rfl | rfl <;> rfl) (by unfold maxLen; simp only; omega) (by simp only; omega) (by simp; omega) ?_; intro v' w4 ho4 hg4 hnil4; obtain ⟨x4, y4, rfl⟩ := own_len ho4)
          go_roundw
          case rel =>
            refine ⟨M.stepS ⟨nodes, td ++ [⟨st, sn, true, sl⟩], done, ps⟩ ⟨st, sn, true, sl⟩ td, pa, pc, ?_⟩
            rw [HS2.out]
            exact ⟨rfl, hpc, HPk, HR4.out.to5 hg4 ho4, by rw [← HS2.out]; exact HSt1.out⟩
          case measure => simp [lenOf]; omega

end Go.Proofs.YthdckapdhcpaoaaGreatDoor
