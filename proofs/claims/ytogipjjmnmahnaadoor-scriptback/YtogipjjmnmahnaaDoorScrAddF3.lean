/-
  The contract of addFrag, where the section and the alignment are told and its bytes are read.
-/
import Derived.Test.YtogipjjmnmahnaaDoorScrAddF2
namespace Go.Proofs.YtogipjjmnmahnaaDoor
open Go Go.RowKit
set_option linter.unusedVariables false

theorem bytesOf_small {t : M.Txt} {bs : List Int} (h : M.bytesOf t = some bs) : ∀ b ∈ bs, 0 ≤ b ∧ b < 256 := by
  unfold M.bytesOf at h
  split at h
  · cases h; simp
  · exact (hex_pairs t bs h).2

theorem row_base {w : World} {B B' k n : Nat} {e : TypeId} {v : Value} {xs : List Value} (h : w.ownsRow B' e k v n xs) (hB : B ≤ B') : w.ownsRow B e k v n xs := by
  refine ⟨h.1, ?_⟩
  rcases h.2 with h1 | ⟨g, cap, cur, h1, h2, h3⟩
  · exact .inl h1
  · exact .inr ⟨g, cap, cur, h1, by omega, h3⟩

set_option maxHeartbeats 4000000 in
set_option maxRecDepth 100000 in
theorem addFrag_bytes (es : List Ent) (ds : List M.Dfn) (vF vD : Value) (w0 w1 w2 w3 w4 : M.Txt) (B b k : Nat) (a : Int) (w : World) (hP : PM w B b es ds vF vD) (hG : Glob w) (h2 : w2.length ≤ 100000) (h4 : w4.length ≤ 100000) (hB : B ≤ w.heap.size) (hn : es.length ≤ 100000)
    (hk : M.find M.sectT w1 = some k) (hk5 : ((k : Int) == 5) = false) (ha : M.num w2 = some a) (h3 : w3.length ≤ 100000) :
    Calls Tryd.prog 31 #[.pointer (some ⟨b, 0, none⟩), .agg #[.string (M.str w0), .string (M.str w1), .string (M.str w2), .string (M.str w3), .string (M.str w4)]] w fun e w' => e = .returned (.bool (M.bytesOf w4).isSome) ∧ Below B w w' ∧ (∃ vF' vD', w'.heap[b]? = some (.cells #[vF', vD'] 25 (0, 0))) ∧
      ∀ bs, M.bytesOf w4 = some bs → ∃ bv v', PM w' B b (es ++ [⟨⟨k, a, M.groupOf w3, bs, 0, []⟩, bv, .slice none 0 0⟩]) ds v' vD := by
  obtain ⟨i0, hi, hz0, hz1, hz2⟩ := info_parts infoFrag
  have K1 : Hid (∀ W, Calls Tryd.prog 47 #[.agg #[.string (M.str (M.sectT.getD 0 [])), .string (M.str (M.sectT.getD 1 [])), .string (M.str (M.sectT.getD 2 [])), .string (M.str (M.sectT.getD 3 [])), .string (M.str (M.sectT.getD 4 [])), .string (M.str (M.sectT.getD 5 []))], .string (M.str w1)] W fun e w' =>
      e = .returned (.tuple #[.int .i64 (k : Int), .bool true]) ∧ Below W.heap.size W w') := fun W => by
    have := findS_any w1 W
    rwa [hk] at this
  have K2 : Hid (∀ W, Below w.heap.size w W → Calls Tryd.prog 48 #[.string (M.str w2)] W fun e w' => e = .returned (.tuple #[.int .i64 a, .bool true]) ∧ Below W.heap.size W w') := fun W hW => by
    have := numT_any w2 h2 W (hG.later hW)
    rwa [ha] at this
  have K3 : Hid (∀ W, Calls Tryd.prog 49 #[.string (M.str w4)] W fun e w' => Below W.heap.size W w' ∧ ∃ v, e = .returned (.tuple #[v, .bool (M.bytesOf w4).isSome]) ∧ (∃ ad nn cc, v = .slice ad nn cc) ∧ (∀ bs, M.bytesOf w4 = some bs → w'.ownsRow W.heap.size 5 1 v bs.length (bs.map (Value.int .u8)))) := fun W => pairs_any w4 h4 W
  have HSm : Hid (∀ bs, M.bytesOf w4 = some bs → ∀ b ∈ bs, 0 ≤ b ∧ b < 256) := fun bs hbs => bytesOf_small hbs
  have g0 := hG.sects 0 (by decide)
  have g1 := hG.sects 1 (by decide)
  have g2 := hG.sects 2 (by decide)
  have g3 := hG.sects 3 (by decide)
  have g4 := hG.sects 4 (by decide)
  have g5 := hG.sects 5 (by decide)
  have hg16 := hG.size
  have hg0 : 0 < w.heap.size := by omega
  generalize M.str (M.sectT.getD 0 []) = t0 at *
  generalize M.str (M.sectT.getD 1 []) = t1 at *
  generalize M.str (M.sectT.getD 2 []) = t2 at *
  generalize M.str (M.sectT.getD 3 []) = t3 at *
  generalize M.str (M.sectT.getD 4 []) = t4 at *
  generalize M.str (M.sectT.getD 5 []) = t5 at *
  clear hk ha
  go_enter Tryd.func31, Tryd.ntmps31
  go_wp2_with (first | (go_at_call 47; refine (K1.out _).mono ?_; rintro e x1 ⟨rfl, hb1⟩; obtain ⟨hc1, hf1⟩ := bcell hb1; have hz1 := three_lt hb1; have HX1 : Hid (Below w.heap.size w x1) := ((Below.refl _ _).alloc (Nat.le_refl _) _).trans (hb1.mono (by simp)); have y0 : x1.heap[w.heap.size]? = some (.cells #[.string (M.str w0), .string (M.str w1), .string (M.str w2), .string (M.str w3), .string (M.str w4)] 74 (0, 0)) := (hb1.block _ (by simp)).trans (heap_alloc_new _ _); have z2 := cellB y0 2; simp only [List.getElem?_toArray, List.getElem?_cons_zero, List.getElem?_cons_succ] at z2; clear hc1 hf1 hz1 hb1) | (go_at_call 48; refine (K2.out _ HX1.out).mono ?_; rintro e x2 ⟨rfl, hb2⟩; refine Hid.out ?_))
  have HX2 : Hid (Below w.heap.size w x2) := HX1.out.trans (hb2.mono HX1.out.size)
  have hP2 := hP.later HX2.out
  have hlt1 : w.heap.size < x1.heap.size := (Array.getElem?_eq_some_iff.1 y0).1
  have y2 := (hb2.block _ hlt1).trans y0
  have z3 := cellB y2 3
  have z4 := cellB y2 4
  simp only [List.getElem?_toArray, List.getElem?_cons_zero, List.getElem?_cons_succ] at z3 z4
  have hlt2 : w.heap.size < x2.heap.size := (Array.getElem?_eq_some_iff.1 y2).1
  clear hb2 y0 z2 HX1 K1 K2 g0 g1 g2 g3 g4 g5 hg16 hg0 hP hlt1 y2
  refine Lib.hid ?_
  cases hd : ((M.str w3).toList == [45])
  ·
    have HG : Hid (M.groupOf w3 = M.str w3) := group_word hd
    have hgs : ((M.str w3) : ByteArray).size ≤ maxLen := by rw [str_size]; unfold maxLen; omega
    have HBx : Hid (Below x2.heap.size x2 (x2.alloc (.cells #[.int .i64 k, .int .i64 a, .string (M.str w3), .slice none 0 0, .int .i64 0, .slice none 0 0] 49))) := (Below.refl _ _).alloc (Nat.le_refl _) _
    go_wp2_with (go_at_call 49; refine (K3.out _).mono ?_; rintro e x3 ⟨hb3, _, rfl, ⟨ad, nn, cc, rfl⟩, hrow3⟩; refine Hid.out ?_)
    have q3 : x3.heap[x2.heap.size]? = some (.cells #[.int .i64 k, .int .i64 a, .string (M.str w3), .slice none 0 0, .int .i64 0, .slice none 0 0] 49 (0, 0)) := by
      rw [hb3.block _ (by simp)]
      exact heap_alloc_new _ _
    have HB3 : Hid (Below x2.heap.size x2 x3) := HBx.out.trans (hb3.mono (by simp))
    have c4 := cellB q3 3
    have f4 := frozenB q3 3
    have HRow : Hid (∀ bs, M.bytesOf w4 = some bs → x3.ownsRow B 5 1 (.slice ad nn cc) bs.length (bs.map (Value.int .u8))) := fun bs hbs => row_base (hrow3 bs hbs) (by have := HX2.out.size; simp; omega)
    clear hrow3
    simp only [List.getElem?_toArray, List.getElem?_cons_zero, List.getElem?_cons_succ] at c4
    clear hb3
    refine Lib.hid ?_
    go_wp2_with fail
    have q4 : (x3.setCell ⟨x2.heap.size, 3, none⟩ (.slice ad nn cc)).heap[x2.heap.size]? = some (.cells #[.int .i64 k, .int .i64 a, .string (M.str w3), .slice ad nn cc, .int .i64 0, .slice none 0 0] 49 (0, 0)) := setB' q3 _
    have HB4 : Hid (Below x2.heap.size x2 (x3.setCell ⟨x2.heap.size, 3, none⟩ (.slice ad nn cc))) := HB3.out.setCell (Nat.le_refl _) _
    have HRow4 : Hid (∀ bs, M.bytesOf w4 = some bs → (x3.setCell ⟨x2.heap.size, 3, none⟩ (.slice ad nn cc)).ownsRow B 5 1 (.slice ad nn cc) bs.length (bs.map (Value.int .u8))) := fun bs hbs => (HRow.out bs hbs).kept (grown_set x3 _ _ _) (own_ne (HRow.out bs hbs) q3 (by decide))
    clear HRow
    generalize (x3.setCell ⟨x2.heap.size, 3, none⟩ (.slice ad nn cc)) = W at *
    have hP4 := hP2.later HB4.out
    have hBx : ∀ k, vF.ownBlock = some k → k ≠ x2.heap.size := fun k hk => by have := (hP2.rowF.lt k hk).2; omega
    have c0 : W.cell? ⟨b, 0, none⟩ = some vF := cellB hP4.blk 0
    have k0 : W.cell? ⟨x2.heap.size, 0, none⟩ = some (.int .i64 k) := cellB q4 0
    have k1 : W.cell? ⟨x2.heap.size, 1, none⟩ = some (.int .i64 a) := cellB q4 1
    have k2 : W.cell? ⟨x2.heap.size, 2, none⟩ = some (.string (M.str w3)) := cellB q4 2
    have k3 : W.cell? ⟨x2.heap.size, 3, none⟩ = some (.slice ad nn cc) := cellB q4 3
    have k4 : W.cell? ⟨x2.heap.size, 4, none⟩ = some (.int .i64 0) := cellB q4 4
    have k5 : W.cell? ⟨x2.heap.size, 5, none⟩ = some (.slice none 0 0) := cellB q4 5
    have hbW : b < W.heap.size := (Array.getElem?_eq_some_iff.1 hP4.blk).1
    have hNW : x2.heap.size < W.heap.size := (Array.getElem?_eq_some_iff.1 q4).1
    have hBW : B ≤ W.heap.size := by have := HX2.out.size; omega
    clear c4 f4 q3 HB3 HBx
    have hfz : W.frozen? ⟨b, 0, none⟩ = false := frozenB hP4.blk 0
    have hownW : ∀ o, (W.drew.alloc o).ownsRow B 49 6 vF es.length (es.flatMap entCells) := fun o => World.ownsRow.alloc (w := W.drew) (show W.drew.ownsRow B 49 6 vF es.length (es.flatMap entCells) from hP4.rowF) o
    have hnews : ∀ j u, (#[.int .i64 k, .int .i64 a, .string (M.str w3), .slice ad nn cc, .int .i64 0, .slice none 0 0] : Array Value).toList[j]? = some u → (W.drew.alloc (.cells #[.int .i64 k, .int .i64 a, .string (M.str w3), .slice ad nn cc, .int .i64 0, .slice none 0 0] 49)).cell? ((⟨W.heap.size, 0, none⟩ : Addr).add j) = some u := World.news_of_block (heap_alloc_new W.drew _)
    have HF : Hid (∀ w5 o, (W.drew.alloc o).grownBy w5 vF.ownBlock → w5.heap[b]? = some (.cells #[vF, vD] 25 (0, 0)) ∧ w5.heap[x2.heap.size]? = some (.cells #[.int .i64 k, .int .i64 a, .string (M.str w3), .slice ad nn cc, .int .i64 0, .slice none 0 0] 49 (0, 0))) := fun w5 o hg => far_rows hP4 q4 hg hBx hNW
    go_region_law ((refine step_append_lies _ (by rfl) _ _ _ (by rfl) B 49 i0 (.agg #[.int .i64 0, .int .i64 0, .string ⟨#[]⟩, .slice none 0 0, .int .i64 0, .slice none 0 0]) 6 88 Tryd.underlying22 hi hz0 hz1 hz2 rfl (by decide) vF es.length (es.flatMap entCells) (by rfl) (hownW _) ⟨W.heap.size, 0, none⟩ 1 1 #[.int .i64 k, .int .i64 a, .string (M.str w3), .slice ad nn cc, .int .i64 0, .slice none 0 0].toList (by rfl) (by rfl) hnews (fun u hu => by simp at hu; rcases hu with rfl | rfl | rfl | rfl | rfl | rfl <;> rfl) (by omega) (by unfold maxLen; omega) (by omega) (by simp; omega) (W.heap.size + 1) (by simp) ?_; intro g cap w5 hown5 hgrow5 hat5 hlt5; have hn5 := HF.out _ _ hgrow5; have hfz5 := frozenB hn5.1 0; have hcb5 : w5.cell? ⟨b, 0, none⟩ = some vF := cellB hn5.1 0))
    all_goals
      have HN5 : Hid (w5.heap[b]? = some (.cells #[vF, vD] 25 (0, 0))) := hn5.1
      clear hcb5 hfz5 hn5 k0 k1 k2 k3 k4 k5 c0 hfz
      go_wp2
      go_ret
      have HD : Below W.heap.size W (W.drew.alloc (.cells #[.int .i64 k, .int .i64 a, .string (M.str w3), .slice ad nn cc, .int .i64 0, .slice none 0 0] 49)) := (Below.refl _ _).drew.alloc (Nat.le_refl _) _
      refine ⟨rfl, ?_, ⟨_, _, setB' HN5.out _⟩, fun bs hbs => ⟨.slice ad nn cc, _, (hP4.later HD).addFrag ⟨k, a, M.groupOf w3, bs, 0, []⟩ (.slice ad nn cc) hgrow5 (by rw [HG.out]; exact hown5) ((HRow4.out bs hbs).kept (grown_of_below HD Option.none) own_self) ⟨HSm.out bs hbs, (by rw [HG.out]; exact hgs)⟩ rfl⟩⟩
      refine Below.setCell ?_ hP4.le _
      exact (((HX2.out.mono hB).trans (HB4.out.mono (by have := HX2.out.size; omega))).trans (HD.mono hBW)).grown hgrow5 (by simp; omega) (fun k hk => (hP4.rowF.lt k hk).1)
  ·
    have HG : Hid (M.groupOf w3 = ⟨#[]⟩) := group_dash hd
    have hgs : (⟨#[]⟩ : ByteArray).size ≤ maxLen := by unfold maxLen; decide
    have HBx : Hid (Below x2.heap.size x2 (x2.alloc (.cells #[.int .i64 k, .int .i64 a, .string ⟨#[]⟩, .slice none 0 0, .int .i64 0, .slice none 0 0] 49))) := (Below.refl _ _).alloc (Nat.le_refl _) _
    go_wp2_with (go_at_call 49; refine (K3.out _).mono ?_; rintro e x3 ⟨hb3, _, rfl, ⟨ad, nn, cc, rfl⟩, hrow3⟩; refine Hid.out ?_)
    have q3 : x3.heap[x2.heap.size]? = some (.cells #[.int .i64 k, .int .i64 a, .string ⟨#[]⟩, .slice none 0 0, .int .i64 0, .slice none 0 0] 49 (0, 0)) := by
      rw [hb3.block _ (by simp)]
      exact heap_alloc_new _ _
    have HB3 : Hid (Below x2.heap.size x2 x3) := HBx.out.trans (hb3.mono (by simp))
    have c4 := cellB q3 3
    have f4 := frozenB q3 3
    have HRow : Hid (∀ bs, M.bytesOf w4 = some bs → x3.ownsRow B 5 1 (.slice ad nn cc) bs.length (bs.map (Value.int .u8))) := fun bs hbs => row_base (hrow3 bs hbs) (by have := HX2.out.size; simp; omega)
    clear hrow3
    simp only [List.getElem?_toArray, List.getElem?_cons_zero, List.getElem?_cons_succ] at c4
    clear hb3
    refine Lib.hid ?_
    go_wp2_with fail
    have q4 : (x3.setCell ⟨x2.heap.size, 3, none⟩ (.slice ad nn cc)).heap[x2.heap.size]? = some (.cells #[.int .i64 k, .int .i64 a, .string ⟨#[]⟩, .slice ad nn cc, .int .i64 0, .slice none 0 0] 49 (0, 0)) := setB' q3 _
    have HB4 : Hid (Below x2.heap.size x2 (x3.setCell ⟨x2.heap.size, 3, none⟩ (.slice ad nn cc))) := HB3.out.setCell (Nat.le_refl _) _
    have HRow4 : Hid (∀ bs, M.bytesOf w4 = some bs → (x3.setCell ⟨x2.heap.size, 3, none⟩ (.slice ad nn cc)).ownsRow B 5 1 (.slice ad nn cc) bs.length (bs.map (Value.int .u8))) := fun bs hbs => (HRow.out bs hbs).kept (grown_set x3 _ _ _) (own_ne (HRow.out bs hbs) q3 (by decide))
    clear HRow
    generalize (x3.setCell ⟨x2.heap.size, 3, none⟩ (.slice ad nn cc)) = W at *
    have hP4 := hP2.later HB4.out
    have hBx : ∀ k, vF.ownBlock = some k → k ≠ x2.heap.size := fun k hk => by have := (hP2.rowF.lt k hk).2; omega
    have c0 : W.cell? ⟨b, 0, none⟩ = some vF := cellB hP4.blk 0
    have k0 : W.cell? ⟨x2.heap.size, 0, none⟩ = some (.int .i64 k) := cellB q4 0
    have k1 : W.cell? ⟨x2.heap.size, 1, none⟩ = some (.int .i64 a) := cellB q4 1
    have k2 : W.cell? ⟨x2.heap.size, 2, none⟩ = some (.string ⟨#[]⟩) := cellB q4 2
    have k3 : W.cell? ⟨x2.heap.size, 3, none⟩ = some (.slice ad nn cc) := cellB q4 3
    have k4 : W.cell? ⟨x2.heap.size, 4, none⟩ = some (.int .i64 0) := cellB q4 4
    have k5 : W.cell? ⟨x2.heap.size, 5, none⟩ = some (.slice none 0 0) := cellB q4 5
    have hbW : b < W.heap.size := (Array.getElem?_eq_some_iff.1 hP4.blk).1
    have hNW : x2.heap.size < W.heap.size := (Array.getElem?_eq_some_iff.1 q4).1
    have hBW : B ≤ W.heap.size := by have := HX2.out.size; omega
    clear c4 f4 q3 HB3 HBx
    have hfz : W.frozen? ⟨b, 0, none⟩ = false := frozenB hP4.blk 0
    have hownW : ∀ o, (W.drew.alloc o).ownsRow B 49 6 vF es.length (es.flatMap entCells) := fun o => World.ownsRow.alloc (w := W.drew) (show W.drew.ownsRow B 49 6 vF es.length (es.flatMap entCells) from hP4.rowF) o
    have hnews : ∀ j u, (#[.int .i64 k, .int .i64 a, .string ⟨#[]⟩, .slice ad nn cc, .int .i64 0, .slice none 0 0] : Array Value).toList[j]? = some u → (W.drew.alloc (.cells #[.int .i64 k, .int .i64 a, .string ⟨#[]⟩, .slice ad nn cc, .int .i64 0, .slice none 0 0] 49)).cell? ((⟨W.heap.size, 0, none⟩ : Addr).add j) = some u := World.news_of_block (heap_alloc_new W.drew _)
    have HF : Hid (∀ w5 o, (W.drew.alloc o).grownBy w5 vF.ownBlock → w5.heap[b]? = some (.cells #[vF, vD] 25 (0, 0)) ∧ w5.heap[x2.heap.size]? = some (.cells #[.int .i64 k, .int .i64 a, .string ⟨#[]⟩, .slice ad nn cc, .int .i64 0, .slice none 0 0] 49 (0, 0))) := fun w5 o hg => far_rows hP4 q4 hg hBx hNW
    go_region_law ((refine step_append_lies _ (by rfl) _ _ _ (by rfl) B 49 i0 (.agg #[.int .i64 0, .int .i64 0, .string ⟨#[]⟩, .slice none 0 0, .int .i64 0, .slice none 0 0]) 6 88 Tryd.underlying22 hi hz0 hz1 hz2 rfl (by decide) vF es.length (es.flatMap entCells) (by rfl) (hownW _) ⟨W.heap.size, 0, none⟩ 1 1 #[.int .i64 k, .int .i64 a, .string ⟨#[]⟩, .slice ad nn cc, .int .i64 0, .slice none 0 0].toList (by rfl) (by rfl) hnews (fun u hu => by simp at hu; rcases hu with rfl | rfl | rfl | rfl | rfl | rfl <;> rfl) (by omega) (by unfold maxLen; omega) (by omega) (by simp; omega) (W.heap.size + 1) (by simp) ?_; intro g cap w5 hown5 hgrow5 hat5 hlt5; have hn5 := HF.out _ _ hgrow5; have hfz5 := frozenB hn5.1 0; have hcb5 : w5.cell? ⟨b, 0, none⟩ = some vF := cellB hn5.1 0))
    all_goals
      have HN5 : Hid (w5.heap[b]? = some (.cells #[vF, vD] 25 (0, 0))) := hn5.1
      clear hcb5 hfz5 hn5 k0 k1 k2 k3 k4 k5 c0 hfz
      go_wp2
      go_ret
      have HD : Below W.heap.size W (W.drew.alloc (.cells #[.int .i64 k, .int .i64 a, .string ⟨#[]⟩, .slice ad nn cc, .int .i64 0, .slice none 0 0] 49)) := (Below.refl _ _).drew.alloc (Nat.le_refl _) _
      refine ⟨rfl, ?_, ⟨_, _, setB' HN5.out _⟩, fun bs hbs => ⟨.slice ad nn cc, _, (hP4.later HD).addFrag ⟨k, a, M.groupOf w3, bs, 0, []⟩ (.slice ad nn cc) hgrow5 (by rw [HG.out]; exact hown5) ((HRow4.out bs hbs).kept (grown_of_below HD Option.none) own_self) ⟨HSm.out bs hbs, (by rw [HG.out]; exact hgs)⟩ rfl⟩⟩
      refine Below.setCell ?_ hP4.le _
      exact (((HX2.out.mono hB).trans (HB4.out.mono (by have := HX2.out.size; omega))).trans (HD.mono hBW)).grown hgrow5 (by simp; omega) (fun k hk => (hP4.rowF.lt k hk).1)

end Go.Proofs.YtogipjjmnmahnaaDoor
