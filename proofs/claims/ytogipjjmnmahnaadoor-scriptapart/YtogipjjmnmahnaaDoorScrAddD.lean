/-
  The contract of addDef.
-/
import Derived.Test.YtogipjjmnmahnaaDoorScrAddF3
namespace Go.Proofs.YtogipjjmnmahnaaDoor
open Go Go.RowKit
set_option linter.unusedVariables false

theorem findD_any (t : M.Txt) (w : World) :
    Calls Tryd.prog 47 #[.agg #[.string (M.str (M.defT.getD 0 [])), .string (M.str (M.defT.getD 1 [])), .string (M.str (M.defT.getD 2 [])), .string (M.str (M.defT.getD 3 [])), .string (M.str (M.defT.getD 4 [])), .string (M.str (M.defT.getD 5 []))], .string (M.str t)] w fun e w' =>
      e = .returned (.tuple #[.int .i64 (((M.find M.defT t).getD 0 : Nat) : Int), .bool (M.find M.defT t).isSome]) ∧ Below w.heap.size w w' := by
  have := find_any (M.defT.getD 0 []) (M.defT.getD 1 []) (M.defT.getD 2 []) (M.defT.getD 3 []) (M.defT.getD 4 []) (M.defT.getD 5 []) (M.str t) w
  rwa [txt_str] at this

theorem findK_any (t : M.Txt) (w : World) :
    Calls Tryd.prog 47 #[.agg #[.string (M.str (M.kindT.getD 0 [])), .string (M.str (M.kindT.getD 1 [])), .string (M.str (M.kindT.getD 2 [])), .string (M.str (M.kindT.getD 3 [])), .string (M.str (M.kindT.getD 4 [])), .string (M.str (M.kindT.getD 5 []))], .string (M.str t)] w fun e w' =>
      e = .returned (.tuple #[.int .i64 (((M.find M.kindT t).getD 0 : Nat) : Int), .bool (M.find M.kindT t).isSome]) ∧ Below w.heap.size w w' := by
  have := find_any (M.kindT.getD 0 []) (M.kindT.getD 1 []) (M.kindT.getD 2 []) (M.kindT.getD 3 []) (M.kindT.getD 4 []) (M.kindT.getD 5 []) (M.str t) w
  rwa [txt_str] at this

theorem far_rowsD {W w5 : World} {o : Obj} {B b N : Nat} {es : List Ent} {ds : List M.Dfn} {vF vD : Value} {cs : Array Value} {t : TypeId} (hP : PM W B b es ds vF vD) (hq : W.heap[N]? = some (.cells cs t (0, 0))) (hg : (W.drew.alloc o).grownBy w5 vD.ownBlock) (hBx : ∀ k, vD.ownBlock = some k → k ≠ N) (hN : N < W.heap.size) :
    w5.heap[b]? = some (.cells #[vF, vD] 25 (0, 0)) ∧ w5.heap[N]? = some (.cells cs t (0, 0)) := by
  have hb : b < W.heap.size := (Array.getElem?_eq_some_iff.1 hP.blk).1
  have e1 : ∀ k, k < W.heap.size → (W.drew.alloc o).heap[k]? = W.heap[k]? := fun k hk => Below.heap_alloc W.drew o k hk
  refine ⟨?_, ?_⟩
  · rw [hg.block b (by simp; exact Nat.lt_succ_of_lt hb), e1 b hb]
    · exact hP.blk
    · rcases own_ne hP.rowD hP.blk (by decide) with h1 | h1
      · rw [h1]; simp
      · exact fun e => h1 e.symm
  · rw [hg.block N (by simp; exact Nat.lt_succ_of_lt hN), e1 N hN]
    · exact hq
    · exact fun e => hBx N e.symm rfl

set_option maxHeartbeats 4000000 in
set_option maxRecDepth 100000 in
theorem addDef_raw (es : List Ent) (ds : List M.Dfn) (vF vD : Value) (w0 w1 w2 w3 w4 : M.Txt) (B b fk : Nat) (n3 n4 : Int) (fb b3 b4 : Bool) (w : World) (hP : PM w B b es ds vF vD) (hG : Glob w) (h1 : w1.length ≤ 100000) (h3 : w3.length ≤ 100000) (h4 : w4.length ≤ 100000) (hB : B ≤ w.heap.size) (hn : ds.length ≤ 100000)
    (e1 : (M.find M.defT w2).getD 0 = fk) (e2 : (M.find M.defT w2).isSome = fb) (e3 : (M.num w3).getD 0 = n3) (e4 : (M.num w3).isSome = b3) (e5 : (M.num w4).getD 0 = n4) (e6 : (M.num w4).isSome = b4) :
    Calls Tryd.prog 33 #[.pointer (some ⟨b, 0, none⟩), .agg #[.string (M.str w0), .string (M.str w1), .string (M.str w2), .string (M.str w3), .string (M.str w4)]] w fun e w' => e = .returned (.bool (fb && b3 && b4)) ∧ Below B w w' ∧
      ∃ v', PM w' B b es (ds ++ [if (fk : Int) = 3 then ⟨M.str w1, fk, 0, 0, n3, n4⟩ else ⟨M.str w1, fk, n3, n4, 0, 0⟩]) vF v' := by
  obtain ⟨i0, hi, hz0, hz1, hz2⟩ := info_parts infoDef
  have K1 : Hid (∀ W, Calls Tryd.prog 47 #[.agg #[.string (M.str (M.defT.getD 0 [])), .string (M.str (M.defT.getD 1 [])), .string (M.str (M.defT.getD 2 [])), .string (M.str (M.defT.getD 3 [])), .string (M.str (M.defT.getD 4 [])), .string (M.str (M.defT.getD 5 []))], .string (M.str w2)] W fun e w' =>
      e = .returned (.tuple #[.int .i64 (fk : Int), .bool fb]) ∧ Below W.heap.size W w') := fun W => by
    have := findD_any w2 W
    rwa [e1, e2] at this
  have K2 : Hid (∀ W, Below w.heap.size w W → Calls Tryd.prog 48 #[.string (M.str w3)] W fun e w' => e = .returned (.tuple #[.int .i64 n3, .bool b3]) ∧ Below W.heap.size W w') := fun W hW => by
    have := numT_any w3 h3 W (hG.later hW)
    rwa [e3, e4] at this
  have K3 : Hid (∀ W, Below w.heap.size w W → Calls Tryd.prog 48 #[.string (M.str w4)] W fun e w' => e = .returned (.tuple #[.int .i64 n4, .bool b4]) ∧ Below W.heap.size W w') := fun W hW => by
    have := numT_any w4 h4 W (hG.later hW)
    rwa [e5, e6] at this
  clear e1 e2 e3 e4 e5 e6
  have hnm : (M.str w1).size ≤ maxLen := by rw [str_size]; unfold maxLen; omega
  have g0 := hG.defs 0 (by decide)
  have g1 := hG.defs 1 (by decide)
  have g2 := hG.defs 2 (by decide)
  have g3 := hG.defs 3 (by decide)
  have g4 := hG.defs 4 (by decide)
  have g5 := hG.defs 5 (by decide)
  have hg16 := hG.size
  have hg0 : 2 < w.heap.size := by omega
  generalize M.str (M.defT.getD 0 []) = t0 at *
  generalize M.str (M.defT.getD 1 []) = t1 at *
  generalize M.str (M.defT.getD 2 []) = t2 at *
  generalize M.str (M.defT.getD 3 []) = t3 at *
  generalize M.str (M.defT.getD 4 []) = t4 at *
  generalize M.str (M.defT.getD 5 []) = t5 at *
  go_enter Tryd.func33, Tryd.ntmps33
  go_wp2_with (go_at_call 47; refine (K1.out _).mono ?_; rintro e x1 ⟨rfl, hb1⟩; refine Hid.out ?_)
  have HX1 : Hid (Below w.heap.size w x1) := ((Below.refl _ _).alloc (Nat.le_refl _) _).trans (hb1.mono (by simp))
  have y1 : x1.heap[w.heap.size]? = some (.cells #[.string (M.str w0), .string (M.str w1), .string (M.str w2), .string (M.str w3), .string (M.str w4)] 74 (0, 0)) := (hb1.block _ (by simp)).trans (heap_alloc_new _ _)
  have hl1 : w.heap.size < x1.heap.size := (Array.getElem?_eq_some_iff.1 y1).1
  have z3 := cellB y1 3
  simp only [List.getElem?_toArray, List.getElem?_cons_zero, List.getElem?_cons_succ] at z3
  clear hb1 g0 g1 g2 g3 g4 g5
  refine Lib.hid ?_
  go_wp2_with (go_at_call 48; refine (K2.out _ HX1.out).mono ?_; rintro e x2 ⟨rfl, hb2⟩; refine Hid.out ?_)
  have HX2 : Hid (Below w.heap.size w x2) := HX1.out.trans (hb2.mono HX1.out.size)
  have y2 := (hb2.block _ hl1).trans y1
  have hl2 : w.heap.size < x2.heap.size := (Array.getElem?_eq_some_iff.1 y2).1
  have z4 := cellB y2 4
  simp only [List.getElem?_toArray, List.getElem?_cons_zero, List.getElem?_cons_succ] at z4
  clear hb2 y1
  refine Lib.hid ?_
  go_wp2_with (go_at_call 48; refine (K3.out _ HX2.out).mono ?_; rintro e x3 ⟨rfl, hb3⟩; refine Hid.out ?_)
  have HX3 : Hid (Below w.heap.size w x3) := HX2.out.trans (hb3.mono HX2.out.size)
  have y3 := (hb3.block _ hl2).trans y2
  have hl3 : w.heap.size < x3.heap.size := (Array.getElem?_eq_some_iff.1 y3).1
  have z1 := cellB y3 1
  simp only [List.getElem?_toArray, List.getElem?_cons_zero, List.getElem?_cons_succ] at z1
  have hP3 := hP.later HX3.out
  clear hb3 y2 y3 z3 z4 hl1 hl2 HX1 HX2 K1 K2 K3 hg16 hg0 hP
  refine Lib.hid ?_
  by_cases hk : (fk : Int) = 3
  ·
    have hk3 : ((fk : Int) == 3) = true := by simpa using hk
    have HK : Hid ((fk : Int) = 3) := hk
    clear hk
    go_wp2_with fail
    have q4 : (x3.alloc (.cells #[.string (M.str w1), .int .i64 fk, .int .i64 0, .int .i64 0, .int .i64 n3, .int .i64 n4] 59)).heap[x3.heap.size]? = some (.cells #[.string (M.str w1), .int .i64 fk, .int .i64 0, .int .i64 0, .int .i64 n3, .int .i64 n4] 59 (0, 0)) := heap_alloc_new _ _
    have HB4 : Hid (Below x3.heap.size x3 (x3.alloc (.cells #[.string (M.str w1), .int .i64 fk, .int .i64 0, .int .i64 0, .int .i64 n3, .int .i64 n4] 59))) := (Below.refl _ _).alloc (Nat.le_refl _) _
    generalize (x3.alloc (.cells #[.string (M.str w1), .int .i64 fk, .int .i64 0, .int .i64 0, .int .i64 n3, .int .i64 n4] 59)) = W at *
    have hP4 := hP3.later HB4.out
    have hBx : ∀ k, vD.ownBlock = some k → k ≠ x3.heap.size := fun k hk => by have := (hP3.rowD.lt k hk).2; omega
    have c0 : W.cell? ⟨b, 1, none⟩ = some vD := cellB hP4.blk 1
    have k0 : W.cell? ⟨x3.heap.size, 0, none⟩ = some (.string (M.str w1)) := cellB q4 0
    have k1 : W.cell? ⟨x3.heap.size, 1, none⟩ = some (.int .i64 fk) := cellB q4 1
    have k2 : W.cell? ⟨x3.heap.size, 2, none⟩ = some (.int .i64 0) := cellB q4 2
    have k3 : W.cell? ⟨x3.heap.size, 3, none⟩ = some (.int .i64 0) := cellB q4 3
    have k4 : W.cell? ⟨x3.heap.size, 4, none⟩ = some (.int .i64 n3) := cellB q4 4
    have k5 : W.cell? ⟨x3.heap.size, 5, none⟩ = some (.int .i64 n4) := cellB q4 5
    have hbW : b < W.heap.size := (Array.getElem?_eq_some_iff.1 hP4.blk).1
    have hNW : x3.heap.size < W.heap.size := (Array.getElem?_eq_some_iff.1 q4).1
    have hBW : B ≤ W.heap.size := by have := HX3.out.size; omega
    have hfz : W.frozen? ⟨b, 1, none⟩ = false := frozenB hP4.blk 1
    have hownW : ∀ o, (W.drew.alloc o).ownsRow B 59 6 vD ds.length (ds.flatMap encDfn) := fun o => World.ownsRow.alloc (w := W.drew) (show W.drew.ownsRow B 59 6 vD ds.length (ds.flatMap encDfn) from hP4.rowD) o
    have hnews : ∀ j u, (#[.string (M.str w1), .int .i64 fk, .int .i64 0, .int .i64 0, .int .i64 n3, .int .i64 n4] : Array Value).toList[j]? = some u → (W.drew.alloc (.cells #[.string (M.str w1), .int .i64 fk, .int .i64 0, .int .i64 0, .int .i64 n3, .int .i64 n4] 59)).cell? ((⟨W.heap.size, 0, none⟩ : Addr).add j) = some u := World.news_of_block (heap_alloc_new W.drew _)
    have HF : Hid (∀ w5 o, (W.drew.alloc o).grownBy w5 vD.ownBlock → w5.heap[b]? = some (.cells #[vF, vD] 25 (0, 0)) ∧ w5.heap[x3.heap.size]? = some (.cells #[.string (M.str w1), .int .i64 fk, .int .i64 0, .int .i64 0, .int .i64 n3, .int .i64 n4] 59 (0, 0))) := fun w5 o hg => far_rowsD hP4 q4 hg hBx hNW
    go_region_law ((refine step_append_lies _ (by rfl) _ _ _ (by rfl) B 59 i0 (.agg #[.string ⟨#[]⟩, .int .i64 0, .int .i64 0, .int .i64 0, .int .i64 0, .int .i64 0]) 6 56 Tryd.underlying23 hi hz0 hz1 hz2 rfl (by decide) vD ds.length (ds.flatMap encDfn) (by rfl) (hownW _) ⟨W.heap.size, 0, none⟩ 1 1 #[.string (M.str w1), .int .i64 fk, .int .i64 0, .int .i64 0, .int .i64 n3, .int .i64 n4].toList (by rfl) (by rfl) hnews (fun u hu => by simp at hu; rcases hu with rfl | rfl | rfl | rfl | rfl | rfl <;> rfl) (by omega) (by unfold maxLen; omega) (by omega) (by simp; omega) (W.heap.size + 1) (by simp) ?_; intro g cap w5 hown5 hgrow5 hat5 hlt5; have hn5 := HF.out _ _ hgrow5; have hfz5 := frozenB hn5.1 1; have hcb5 : w5.cell? ⟨b, 1, none⟩ = some vD := cellB hn5.1 1))
    all_goals
      clear hcb5 hfz5 hn5 k0 k1 k2 k3 k4 k5 c0 hfz
      have HD : Hid (Below W.heap.size W (W.drew.alloc (.cells #[.string (M.str w1), .int .i64 fk, .int .i64 0, .int .i64 0, .int .i64 n3, .int .i64 n4] 59))) := (Below.refl _ _).drew.alloc (Nat.le_refl _) _
      have HEnd : Hid (Below B w (w5.setCell ⟨b, 1, none⟩ (.slice (some ⟨g, 0, none⟩) (ds.length + 1) cap)) ∧ ∃ v', PM (w5.setCell ⟨b, 1, none⟩ (.slice (some ⟨g, 0, none⟩) (ds.length + 1) cap)) B b es (ds ++ [⟨M.str w1, fk, 0, 0, n3, n4⟩]) vF v') := by
        refine ⟨?_, _, (hP4.later HD.out).addDef ⟨M.str w1, fk, 0, 0, n3, n4⟩ hgrow5 hown5 hnm⟩
        refine Below.setCell ?_ hP4.le _
        exact (((HX3.out.mono hB).trans (HB4.out.mono (by have := HX3.out.size; omega))).trans (HD.out.mono hBW)).grown hgrow5 (by simp; omega) (fun k hk => (hP4.rowD.lt k hk).1)
      clear HD HF hnews hownW hown5 hgrow5 hat5 hlt5
      cases fb
      · go_wp2
        go_ret
        exact ⟨rfl, HEnd.out.1, by have h9 := HEnd.out.2; rw [HK.out] at h9; exact h9⟩
      · cases b3
        · go_wp2
          go_ret
          exact ⟨rfl, HEnd.out.1, by have h9 := HEnd.out.2; rw [HK.out] at h9; exact h9⟩
        · cases b4
          · go_wp2
            go_ret
            exact ⟨rfl, HEnd.out.1, by have h9 := HEnd.out.2; rw [HK.out] at h9; exact h9⟩
          · go_wp2
            go_ret
            exact ⟨rfl, HEnd.out.1, by have h9 := HEnd.out.2; rw [HK.out] at h9; exact h9⟩
  ·
    have hk3 : ((fk : Int) == 3) = false := by simpa using hk
    go_wp2_with fail
    have q4 : (x3.alloc (.cells #[.string (M.str w1), .int .i64 fk, .int .i64 n3, .int .i64 n4, .int .i64 0, .int .i64 0] 59)).heap[x3.heap.size]? = some (.cells #[.string (M.str w1), .int .i64 fk, .int .i64 n3, .int .i64 n4, .int .i64 0, .int .i64 0] 59 (0, 0)) := heap_alloc_new _ _
    have HB4 : Hid (Below x3.heap.size x3 (x3.alloc (.cells #[.string (M.str w1), .int .i64 fk, .int .i64 n3, .int .i64 n4, .int .i64 0, .int .i64 0] 59))) := (Below.refl _ _).alloc (Nat.le_refl _) _
    generalize (x3.alloc (.cells #[.string (M.str w1), .int .i64 fk, .int .i64 n3, .int .i64 n4, .int .i64 0, .int .i64 0] 59)) = W at *
    have hP4 := hP3.later HB4.out
    have hBx : ∀ k, vD.ownBlock = some k → k ≠ x3.heap.size := fun k hk => by have := (hP3.rowD.lt k hk).2; omega
    have c0 : W.cell? ⟨b, 1, none⟩ = some vD := cellB hP4.blk 1
    have k0 : W.cell? ⟨x3.heap.size, 0, none⟩ = some (.string (M.str w1)) := cellB q4 0
    have k1 : W.cell? ⟨x3.heap.size, 1, none⟩ = some (.int .i64 fk) := cellB q4 1
    have k2 : W.cell? ⟨x3.heap.size, 2, none⟩ = some (.int .i64 n3) := cellB q4 2
    have k3 : W.cell? ⟨x3.heap.size, 3, none⟩ = some (.int .i64 n4) := cellB q4 3
    have k4 : W.cell? ⟨x3.heap.size, 4, none⟩ = some (.int .i64 0) := cellB q4 4
    have k5 : W.cell? ⟨x3.heap.size, 5, none⟩ = some (.int .i64 0) := cellB q4 5
    have hbW : b < W.heap.size := (Array.getElem?_eq_some_iff.1 hP4.blk).1
    have hNW : x3.heap.size < W.heap.size := (Array.getElem?_eq_some_iff.1 q4).1
    have hBW : B ≤ W.heap.size := by have := HX3.out.size; omega
    have hfz : W.frozen? ⟨b, 1, none⟩ = false := frozenB hP4.blk 1
    have hownW : ∀ o, (W.drew.alloc o).ownsRow B 59 6 vD ds.length (ds.flatMap encDfn) := fun o => World.ownsRow.alloc (w := W.drew) (show W.drew.ownsRow B 59 6 vD ds.length (ds.flatMap encDfn) from hP4.rowD) o
    have hnews : ∀ j u, (#[.string (M.str w1), .int .i64 fk, .int .i64 n3, .int .i64 n4, .int .i64 0, .int .i64 0] : Array Value).toList[j]? = some u → (W.drew.alloc (.cells #[.string (M.str w1), .int .i64 fk, .int .i64 n3, .int .i64 n4, .int .i64 0, .int .i64 0] 59)).cell? ((⟨W.heap.size, 0, none⟩ : Addr).add j) = some u := World.news_of_block (heap_alloc_new W.drew _)
    have HF : Hid (∀ w5 o, (W.drew.alloc o).grownBy w5 vD.ownBlock → w5.heap[b]? = some (.cells #[vF, vD] 25 (0, 0)) ∧ w5.heap[x3.heap.size]? = some (.cells #[.string (M.str w1), .int .i64 fk, .int .i64 n3, .int .i64 n4, .int .i64 0, .int .i64 0] 59 (0, 0))) := fun w5 o hg => far_rowsD hP4 q4 hg hBx hNW
    go_region_law ((refine step_append_lies _ (by rfl) _ _ _ (by rfl) B 59 i0 (.agg #[.string ⟨#[]⟩, .int .i64 0, .int .i64 0, .int .i64 0, .int .i64 0, .int .i64 0]) 6 56 Tryd.underlying23 hi hz0 hz1 hz2 rfl (by decide) vD ds.length (ds.flatMap encDfn) (by rfl) (hownW _) ⟨W.heap.size, 0, none⟩ 1 1 #[.string (M.str w1), .int .i64 fk, .int .i64 n3, .int .i64 n4, .int .i64 0, .int .i64 0].toList (by rfl) (by rfl) hnews (fun u hu => by simp at hu; rcases hu with rfl | rfl | rfl | rfl | rfl | rfl <;> rfl) (by omega) (by unfold maxLen; omega) (by omega) (by simp; omega) (W.heap.size + 1) (by simp) ?_; intro g cap w5 hown5 hgrow5 hat5 hlt5; have hn5 := HF.out _ _ hgrow5; have hfz5 := frozenB hn5.1 1; have hcb5 : w5.cell? ⟨b, 1, none⟩ = some vD := cellB hn5.1 1))
    all_goals
      clear hcb5 hfz5 hn5 k0 k1 k2 k3 k4 k5 c0 hfz
      have HD : Hid (Below W.heap.size W (W.drew.alloc (.cells #[.string (M.str w1), .int .i64 fk, .int .i64 n3, .int .i64 n4, .int .i64 0, .int .i64 0] 59))) := (Below.refl _ _).drew.alloc (Nat.le_refl _) _
      have HEnd : Hid (Below B w (w5.setCell ⟨b, 1, none⟩ (.slice (some ⟨g, 0, none⟩) (ds.length + 1) cap)) ∧ ∃ v', PM (w5.setCell ⟨b, 1, none⟩ (.slice (some ⟨g, 0, none⟩) (ds.length + 1) cap)) B b es (ds ++ [⟨M.str w1, fk, n3, n4, 0, 0⟩]) vF v') := by
        refine ⟨?_, _, (hP4.later HD.out).addDef ⟨M.str w1, fk, n3, n4, 0, 0⟩ hgrow5 hown5 hnm⟩
        refine Below.setCell ?_ hP4.le _
        exact (((HX3.out.mono hB).trans (HB4.out.mono (by have := HX3.out.size; omega))).trans (HD.out.mono hBW)).grown hgrow5 (by simp; omega) (fun k hk => (hP4.rowD.lt k hk).1)
      clear HD HF hnews hownW hown5 hgrow5 hat5 hlt5
      cases fb
      · go_wp2
        go_ret
        exact ⟨rfl, HEnd.out.1, HEnd.out.2⟩
      · cases b3
        · go_wp2
          go_ret
          exact ⟨rfl, HEnd.out.1, HEnd.out.2⟩
        · cases b4
          · go_wp2
            go_ret
            exact ⟨rfl, HEnd.out.1, HEnd.out.2⟩
          · go_wp2
            go_ret
            exact ⟨rfl, HEnd.out.1, HEnd.out.2⟩

theorem addDef_any (es : List Ent) (ds : List M.Dfn) (vF vD : Value) (w0 w1 w2 w3 w4 : M.Txt) (B b : Nat) (w : World) (hP : PM w B b es ds vF vD) (hG : Glob w) (h1 : w1.length ≤ 100000) (h3 : w3.length ≤ 100000) (h4 : w4.length ≤ 100000) (hB : B ≤ w.heap.size) (hn : ds.length ≤ 100000) :
    Calls Tryd.prog 33 #[.pointer (some ⟨b, 0, none⟩), .agg #[.string (M.str w0), .string (M.str w1), .string (M.str w2), .string (M.str w3), .string (M.str w4)]] w fun e w' => e = .returned (.bool (M.def4 w1 w2 w3 w4).isSome) ∧ Below B w w' ∧
      (∃ vF' vD', w'.heap[b]? = some (.cells #[vF', vD'] 25 (0, 0))) ∧ ∀ d, M.def4 w1 w2 w3 w4 = some d → ∃ v', PM w' B b es (ds ++ [d]) vF v' := by
  refine (addDef_raw es ds vF vD w0 w1 w2 w3 w4 B b _ _ _ _ _ _ w hP hG h1 h3 h4 hB hn rfl rfl rfl rfl rfl rfl).mono ?_
  rintro e w' ⟨rfl, hb, v', hv⟩
  refine ⟨?_, hb, ⟨_, _, hv.blk⟩, fun d hdd => ?_⟩
  · congr 2
    unfold M.def4
    cases M.find M.defT w2 <;> cases M.num w3 <;> cases M.num w4 <;> rfl
  · unfold M.def4 at hdd
    cases hf : M.find M.defT w2 with
    | none => simp [hf] at hdd
    | some k =>
      cases h3' : M.num w3 with
      | none => simp [hf, h3'] at hdd
      | some x =>
        cases h4' : M.num w4 with
        | none => simp [hf, h3', h4'] at hdd
        | some y =>
          simp only [hf, h3', h4', Option.some.injEq] at hdd
          rw [hf, h3', h4'] at hv
          simp only [Option.getD_some] at hv
          refine ⟨v', ?_⟩
          rw [← hdd]
          by_cases hk : k = 3
          · rw [if_pos hk]
            rw [if_pos (by omega)] at hv
            subst hk
            exact hv
          · rw [if_neg hk]
            rw [if_neg (by omega)] at hv
            exact hv

end Go.Proofs.YtogipjjmnmahnaaDoor
