/-
  The contract of part.movedFrag.
-/
import Derived.Test.YtebhbhbhcoijpaaPrtCount
import Derived.Test.YtebhbhbhcoijpaaAppendSrc
import Derived.Test.YtebhbhbhcoijpaaSame
import Derived.Deep.DeepCutAuto
namespace Go.Proofs.Ytebhbhbhcoijpaa
open Go.RowKit
set_option linter.unusedVariables false

def frgZ : Array Value := #[.int .i64 0, .int .i64 0, .string ⟨#[]⟩, .slice none 0 0, .int .i64 0, .slice none 0 0]

theorem row_setc {w : World} {B k n g i : Nat} {e e' : TypeId} {v u : Value} {xs : List Value} {cs : Array Value} {fr : Nat × Nat} (h : w.ownsRow B e k v n xs) (hb : w.heap[g]? = some (.cells cs e' fr)) (hne : e ≠ e') : (w.setCell ⟨g, i, none⟩ u).ownsRow B e k v n xs :=
  h.kept (grown_set w g i u) (own_ne h hb hne)

theorem grown_trans {a b c : World} {r : Option Nat} (h : a.grownBy b r) (h' : b.grownBy c r) : a.grownBy c r :=
  ⟨h'.os.trans h.os, h'.tape.trans h.tape, h'.output.trans h.output, Nat.le_trans h.size h'.size, fun k hk hne => (h'.block k (Nat.lt_of_lt_of_le hk h.size) hne).trans (h.block k hk hne)⟩

/-- six cells are stored, one after another, into a block of six -/
theorem store6 (W : World) (g : Nat) (c0 c1 c2 c3 c4 c5 a0 a1 a2 a3 a4 a5 : Value) (t : TypeId) (h : W.heap[g]? = some (.cells #[c0, c1, c2, c3, c4, c5] t (0, 0))) :
    ((((((W.setCell ⟨g, 0, none⟩ a0).setCell ⟨g, 1, none⟩ a1).setCell ⟨g, 2, none⟩ a2).setCell ⟨g, 3, none⟩ a3).setCell ⟨g, 4, none⟩ a4).setCell ⟨g, 5, none⟩ a5).heap[g]? = some (.cells #[a0, a1, a2, a3, a4, a5] t (0, 0)) ∧
    W.grownBy ((((((W.setCell ⟨g, 0, none⟩ a0).setCell ⟨g, 1, none⟩ a1).setCell ⟨g, 2, none⟩ a2).setCell ⟨g, 3, none⟩ a3).setCell ⟨g, 4, none⟩ a4).setCell ⟨g, 5, none⟩ a5) (some g) := by
  have h0 : (W.setCell ⟨g, 0, none⟩ a0).heap[g]? = some (.cells #[a0, c1, c2, c3, c4, c5] t (0, 0)) := setB' h a0
  have h1 : ((W.setCell ⟨g, 0, none⟩ a0).setCell ⟨g, 1, none⟩ a1).heap[g]? = some (.cells #[a0, a1, c2, c3, c4, c5] t (0, 0)) := setB' h0 a1
  have h2 : (((W.setCell ⟨g, 0, none⟩ a0).setCell ⟨g, 1, none⟩ a1).setCell ⟨g, 2, none⟩ a2).heap[g]? = some (.cells #[a0, a1, a2, c3, c4, c5] t (0, 0)) := setB' h1 a2
  have h3 : ((((W.setCell ⟨g, 0, none⟩ a0).setCell ⟨g, 1, none⟩ a1).setCell ⟨g, 2, none⟩ a2).setCell ⟨g, 3, none⟩ a3).heap[g]? = some (.cells #[a0, a1, a2, a3, c4, c5] t (0, 0)) := setB' h2 a3
  have h4 : (((((W.setCell ⟨g, 0, none⟩ a0).setCell ⟨g, 1, none⟩ a1).setCell ⟨g, 2, none⟩ a2).setCell ⟨g, 3, none⟩ a3).setCell ⟨g, 4, none⟩ a4).heap[g]? = some (.cells #[a0, a1, a2, a3, a4, c5] t (0, 0)) := setB' h3 a4
  exact ⟨setB' h4 a5, grown_trans (grown_trans (grown_trans (grown_trans (grown_trans (grown_set W g 0 a0) (grown_set _ g 1 a1)) (grown_set _ g 2 a2)) (grown_set _ g 3 a3)) (grown_set _ g 4 a4)) (grown_set _ g 5 a5)⟩

/-- what movedFrag has in memory while it moves the places -/
structure MFrag (w wr : World) (f : M.Frg) (C : Array Value) (bv : Value) (ar : Option Addr) (cr : Nat) (k : Nat) (acc : List M.Rel) (pv : Value) : Prop where
  q0 : wr.heap[w.heap.size]? = some (.cells #[.int .i64 f.sect, .int .i64 f.align, .string f.group, bv, .int .i64 f.size, .slice ar f.rels.length cr] 43 (0, 0))
  q1 : wr.heap[w.heap.size + 1]? = some (.cells C 78 (0, 0))
  q2 : wr.heap[w.heap.size + 2]? = some (.cells frgZ 43 (0, 0))
  by' : wr.ownsRow w.heap.size 5 1 bv f.bytes.length (f.bytes.map (Value.int .u8))
  own : wr.ownsRow w.heap.size 121 5 pv k (acc.flatMap encRel)
  len : acc.length = k
  below : Below w.heap.size w wr

theorem mfrag_step {w X w3 : World} {f : M.Frg} {C : Array Value} {bv v v' : Value} {ar : Option Addr} {cr k : Nat} {acc' : List M.Rel} {o : Obj} {n : Nat} {xs : List Value}
    (hby : X.ownsRow w.heap.size 5 1 bv f.bytes.length (f.bytes.map (Value.int .u8))) (hown : X.ownsRow w.heap.size 121 5 v n xs)
    (x0 : X.heap[w.heap.size]? = some (.cells #[.int .i64 f.sect, .int .i64 f.align, .string f.group, bv, .int .i64 f.size, .slice ar f.rels.length cr] 43 (0, 0)))
    (x1 : X.heap[w.heap.size + 1]? = some (.cells C 78 (0, 0))) (x2 : X.heap[w.heap.size + 2]? = some (.cells frgZ 43 (0, 0)))
    (hB : Below w.heap.size w X) (hs : w.heap.size ≤ X.heap.size) (hg : (X.alloc o).grownBy w3 v.ownBlock) (ho : w3.ownsRow w.heap.size 121 5 v' k (acc'.flatMap encRel)) (hl : acc'.length = k) : MFrag w w3 f C bv ar cr k acc' v' := by
  have keep : ∀ (g : Nat) (cs : Array Value) (t : TypeId), X.heap[g]? = some (.cells cs t (0, 0)) → 121 ≠ t → w3.heap[g]? = some (.cells cs t (0, 0)) := fun g cs t h ht => by
    have hlt := (Array.getElem?_eq_some_iff.1 h).1
    rw [hg.block g (by simp; omega), heap_alloc_old X o hlt]
    · exact h
    · rcases own_ne hown h ht with h1 | h1
      · rw [h1]; simp
      · exact fun e => h1 e.symm
  refine ⟨keep _ _ _ x0 (by decide), keep _ _ _ x1 (by decide), keep _ _ _ x2 (by decide), ?_, ho, hl, (hB.alloc hs _).grown hg (by simp; omega) (fun k hk => (hown.lt k hk).1)⟩
  exact (hby.alloc o).kept hg (own_apart hby hown (by decide))

theorem relsAt_cells {w : World} {a : Option Addr} {c : Nat} {rs : List M.Rel} (h : RelsAt w (.slice a rs.length c) rs) (k : Nat) (hk : k < rs.length) :
    ∃ b off, a = some ⟨b, off, none⟩ ∧ w.cell? ⟨b, off + k * 5, none⟩ = some (.int .i64 (rs.getD k rel0).pos) ∧ w.cell? ⟨b, off + k * 5 + 1, none⟩ = some (.int .i64 (rs.getD k rel0).kind)
      ∧ w.cell? ⟨b, off + k * 5 + 2, none⟩ = some (.string (rs.getD k rel0).name) ∧ w.cell? ⟨b, off + k * 5 + 3, none⟩ = some (.int .i64 (rs.getD k rel0).frag)
      ∧ w.cell? ⟨b, off + k * 5 + 4, none⟩ = some (.int .i64 (rs.getD k rel0).add) := by
  obtain ⟨b, off, rfl, hc⟩ := h.1.at k hk
  exact ⟨b, off, rfl, hc 0 (by decide), hc 1 (by decide), hc 2 (by decide), hc 3 (by decide), hc 4 (by decide)⟩

theorem BytesAt.src {w : World} {v : Value} {bs : List Int} (h : BytesAt w v bs) : Src w v bs.length (bs.map (Value.int .u8)) :=
  h.1.src (by decide) _ (by simp) (fun j i hj hi => by
    obtain rfl : i = 0 := by omega
    rw [Nat.mul_one, Nat.add_zero, List.getElem?_map, getElem?_getD bs 0 j hj]; rfl)

set_option maxHeartbeats 8000000 in
set_option maxRecDepth 100000 in
theorem movedFrag_any (f : M.Frg) (ns : List Int) (C : Array Value) (ab ar : Option Addr) (cb cr : Nat) (w : World) (hC : Nums C ns)
    (hBy : BytesAt w (.slice ab f.bytes.length cb) f.bytes) (hRl : RelsAt w (.slice ar f.rels.length cr) f.rels)
    (h64 : f.bytes.length ≤ 64) (h8 : f.rels.length ≤ 8) (hfit : ∀ r ∈ f.rels, M.bare r.name = true → -1 ≤ r.frag ∧ r.frag < 60) :
    Calls Try.prog 79 #[.agg #[.int .i64 f.sect, .int .i64 f.align, .string f.group, .slice ab f.bytes.length cb, .int .i64 f.size, .slice ar f.rels.length cr], .agg C] w fun e w' =>
      Below w.heap.size w w' ∧ ∃ bv rv, e = .returned (.agg #[.int .i64 f.sect, .int .i64 f.align, .string f.group, bv, .int .i64 f.size, rv]) ∧ w'.ownsRow w.heap.size 5 1 bv f.bytes.length (f.bytes.map (Value.int .u8)) ∧
        w'.ownsRow w.heap.size 121 5 rv f.rels.length ((f.rels.map (M.movedRel ns)).flatMap encRel) := by
  obtain ⟨i0, hi0, hz0, hz1, hz2⟩ := info_parts (P := Try.prog) (e := 5) (z := .int .u8 0) (size := 1) (bytes := 1) (by kernel_rfl)
  obtain ⟨i1, hi1, hy0, hy1, hy2⟩ := info_parts (P := Try.prog) (e := 121) (z := .agg #[.int .i64 0, .int .i64 0, .string ⟨#[]⟩, .int .i64 0, .int .i64 0]) (size := 5) (bytes := 48) (by kernel_rfl)
  go_enter Try.func79, Try.ntmps79
  go_upto_region 1 with fail
  have y0 : (((w.alloc (.cells #[.int .i64 f.sect, .int .i64 f.align, .string f.group, .slice ab f.bytes.length cb, .int .i64 f.size, .slice ar f.rels.length cr] 43)).alloc (.cells C 78)).alloc (.cells #[.int .i64 0, .int .i64 0, .string ⟨#[]⟩, .slice none 0 0, .int .i64 0, .slice none 0 0] 43)).heap[w.heap.size]? = some (.cells #[.int .i64 f.sect, .int .i64 f.align, .string f.group, .slice ab f.bytes.length cb, .int .i64 f.size, .slice ar f.rels.length cr] 43 (0, 0)) := (heap_alloc_old _ _ (by simp; omega)).trans (heap_alloc2_old _ _ _)
  have y1 : (((w.alloc (.cells #[.int .i64 f.sect, .int .i64 f.align, .string f.group, .slice ab f.bytes.length cb, .int .i64 f.size, .slice ar f.rels.length cr] 43)).alloc (.cells C 78)).alloc (.cells #[.int .i64 0, .int .i64 0, .string ⟨#[]⟩, .slice none 0 0, .int .i64 0, .slice none 0 0] 43)).heap[w.heap.size + 1]? = some (.cells C 78 (0, 0)) := (heap_alloc_old _ _ (by simp)).trans (heap_alloc2_new _ _ _)
  have y2 : (((w.alloc (.cells #[.int .i64 f.sect, .int .i64 f.align, .string f.group, .slice ab f.bytes.length cb, .int .i64 f.size, .slice ar f.rels.length cr] 43)).alloc (.cells C 78)).alloc (.cells #[.int .i64 0, .int .i64 0, .string ⟨#[]⟩, .slice none 0 0, .int .i64 0, .slice none 0 0] 43)).heap[w.heap.size + 2]? = some (.cells frgZ 43 (0, 0)) := by
    have := heap_alloc_new ((w.alloc (.cells #[.int .i64 f.sect, .int .i64 f.align, .string f.group, .slice ab f.bytes.length cb, .int .i64 f.size, .slice ar f.rels.length cr] 43)).alloc (.cells C 78)) (.cells frgZ 43)
    simpa [frgZ] using this
  have HBY : Hid (Below w.heap.size w (((w.alloc (.cells #[.int .i64 f.sect, .int .i64 f.align, .string f.group, .slice ab f.bytes.length cb, .int .i64 f.size, .slice ar f.rels.length cr] 43)).alloc (.cells C 78)).alloc (.cells #[.int .i64 0, .int .i64 0, .string ⟨#[]⟩, .slice none 0 0, .int .i64 0, .slice none 0 0] 43))) := (((Below.refl _ _).alloc (Nat.le_refl _) _).alloc (by simp) _).alloc (by simp; omega) _
  generalize ((w.alloc (.cells #[.int .i64 f.sect, .int .i64 f.align, .string f.group, .slice ab f.bytes.length cb, .int .i64 f.size, .slice ar f.rels.length cr] 43)).alloc (.cells C 78)).alloc (.cells #[.int .i64 0, .int .i64 0, .string ⟨#[]⟩, .slice none 0 0, .int .i64 0, .slice none 0 0] 43) = Y at *
  have hl0 : w.heap.size < Y.heap.size := (Array.getElem?_eq_some_iff.1 y0).1
  have c3 : Y.cell? ⟨w.heap.size, 3, none⟩ = some (.slice ab f.bytes.length cb) := cellB y0 3
  have hsrc := (hBy.later HBY.out).src
  have hnone : ∀ w3, Y.grownBy w3 (Value.slice none 0 0).ownBlock → Below Y.heap.size Y w3 := fun w3 hg => ⟨hg.os, hg.tape, hg.output, hg.size, fun k hk => hg.block k hk (by simp [Value.ownBlock])⟩
  go_wp2_with (at_builtin; refine wpList_append_src _ rfl _ _ 40 rfl w.heap.size 5 i0 (.int .u8 0) 1 1 Try.underlying40 hi0 hz0 hz1 hz2 rfl (by decide) (.slice none 0 0) 0 [] rfl (World.ownsRow_nil _ _ _ _) _ f.bytes.length (f.bytes.map (Value.int .u8)) rfl hsrc (by simp) (fun u hu => by obtain ⟨b, _, rfl⟩ := List.mem_map.1 hu; rfl) (by unfold maxLen; omega) (by omega) (by omega) ?_; intro bv w3 hownb hgrow3; refine Hid.out ?_)
  obtain ⟨av, nv, cv, rfl⟩ := own_form hownb
  have hb3 := hnone _ hgrow3
  have z0 := (hb3.block _ hl0).trans y0
  have z3 : w3.cell? ⟨w.heap.size, 3, none⟩ = some (.slice ab f.bytes.length cb) := cellB z0 3
  have f3 := frozenB z0 3
  have z5 : w3.cell? ⟨w.heap.size, 5, none⟩ = some (.slice ar f.rels.length cr) := cellB z0 5
  refine Lib.hid ?_
  go_wp2_with fail
  have z1 := (hb3.block _ (Array.getElem?_eq_some_iff.1 y1).1).trans y1
  have z2 := (hb3.block _ (Array.getElem?_eq_some_iff.1 y2).1).trans y2
  have HM : Hid (MFrag w (w3.setCell ⟨w.heap.size, 3, none⟩ (Value.slice av nv cv)) f C (Value.slice av nv cv) ar cr 0 [] (.slice none 0 0)) := by
    have hs := grown_set w3 w.heap.size 3 (Value.slice av nv cv)
    rw [Nat.zero_add, List.nil_append] at hownb
    refine ⟨setB' z0 (Value.slice av nv cv), (Below.heap_setCell _ _ _ _ (by show w.heap.size + 1 ≠ w.heap.size; omega)).trans z1, (Below.heap_setCell _ _ _ _ (by show w.heap.size + 2 ≠ w.heap.size; omega)).trans z2, hownb.kept hs (own_ne hownb z0 (by decide)), World.ownsRow_nil _ _ _ _, rfl, ?_⟩
    exact (HBY.out.trans (hb3.mono (by omega))).setCell (Nat.le_refl _) _
  clear z0 z1 z2 z3 z5 f3 y0 y1 y2 c3 hsrc hnone hownb hgrow3 hb3 HBY hl0
  go_loopw [5, 15] (fun s5 s15 wr => ∃ (k : Nat) (acc : List M.Rel), k ≤ f.rels.length ∧ s15 = .int .i64 k ∧ Hid (acc = (f.rels.take k).map (M.movedRel ns)) ∧ MFrag w wr f C (Value.slice av nv cv) ar cr k acc s5) (fun _ s15 _ => f.rels.length - (intOf s15).toNat)
  case atStart => exact ⟨0, [], Nat.zero_le _, rfl, rfl, HM.out⟩
  case round =>
    obtain ⟨k, acc, hk, rfl, HA, hM⟩ := hrel
    obtain ⟨q0, q1, q2, hby, hown, hla, hB⟩ := hM
    have HB : Hid (Below w.heap.size w wr) := hB
    clear hB HM
    have hl0 : w.heap.size < wr.heap.size := (Array.getElem?_eq_some_iff.1 q0).1
    have hl1 : w.heap.size + 1 < wr.heap.size := (Array.getElem?_eq_some_iff.1 q1).1
    have hl2 : w.heap.size + 2 < wr.heap.size := (Array.getElem?_eq_some_iff.1 q2).1
    have hw0 : w.heap.size ≤ wr.heap.size := by omega
    by_cases hlt : k < f.rels.length
    · obtain ⟨b, off, rfl, e0, e1, e2, e3, e4⟩ := relsAt_cells (hRl.later HB.out) k hlt
      have hbr : b < wr.heap.size := World.block_lt_of_cell? _ _ e0
      have HA1 : Hid (acc ++ [M.movedRel ns (f.rels.getD k rel0)] = (f.rels.take (k + 1)).map (M.movedRel ns)) := by
        rw [Hid, List.take_succ_eq_append_getElem hlt, List.map_append, ← HA.out]
        simp only [List.map_cons, List.map_nil]
        rw [List.getD_eq_getElem?_getD, List.getElem?_eq_getElem hlt]; rfl
      have HF : Hid (M.bare (f.rels.getD k rel0).name = true → -1 ≤ (f.rels.getD k rel0).frag ∧ (f.rels.getD k rel0).frag < 60) := hfit _ (getD_mem f.rels rel0 k hlt)
      have hkl : (k : Int) < (f.rels.length : Int) := by omega
      clear hBy hRl hfit HA
      generalize f.rels.getD k rel0 = r at *
      obtain ⟨pos, kd, nm, fr, ad⟩ := r
      simp only at e0 e1 e2 e3 e4 HF HA1
      obtain ⟨a5, n5, c5, rfl⟩ := own_form hown
      cases hb : M.bare nm
      · have HA2 : Hid (acc ++ [⟨pos, kd, nm, fr, ad⟩] = (f.rels.take (k + 1)).map (M.movedRel ns)) := by rw [M.movedRel_named hb] at HA1; exact HA1
        have hb' : nm.toList.isEmpty = false := hb
        clear HA1 hb
        go_upto_region 8 with fail
        have hownX := hown.alloc (.cells #[.int .i64 pos, .int .i64 kd, .string nm, .int .i64 fr, .int .i64 ad] 121)
        have hbyX := hby.alloc (.cells #[.int .i64 pos, .int .i64 kd, .string nm, .int .i64 fr, .int .i64 ad] 121)
        have HBX : Hid (Below w.heap.size w (wr.alloc (.cells #[.int .i64 pos, .int .i64 kd, .string nm, .int .i64 fr, .int .i64 ad] 121))) := HB.out.alloc hw0 _
        have x0 := (heap_alloc_old wr (.cells #[.int .i64 pos, .int .i64 kd, .string nm, .int .i64 fr, .int .i64 ad] 121) hl0).trans q0
        have x1 := (heap_alloc_old wr (.cells #[.int .i64 pos, .int .i64 kd, .string nm, .int .i64 fr, .int .i64 ad] 121) hl1).trans q1
        have x2 := (heap_alloc_old wr (.cells #[.int .i64 pos, .int .i64 kd, .string nm, .int .i64 fr, .int .i64 ad] 121) hl2).trans q2
        have x3 := heap_alloc_new wr (.cells #[.int .i64 pos, .int .i64 kd, .string nm, .int .i64 fr, .int .i64 ad] 121)
        have hXs : wr.heap.size < (wr.alloc (.cells #[.int .i64 pos, .int .i64 kd, .string nm, .int .i64 fr, .int .i64 ad] 121)).heap.size := by simp
        clear q0 q1 q2 hown hby HB e0 e1 e2 e3 e4
        generalize wr.alloc (.cells #[.int .i64 pos, .int .i64 kd, .string nm, .int .i64 fr, .int .i64 ad] 121) = X at *
        have k0 : X.cell? ⟨wr.heap.size, 0, none⟩ = some (.int .i64 pos) := cellB x3 0
        have k1 : X.cell? ⟨wr.heap.size, 1, none⟩ = some (.int .i64 kd) := cellB x3 1
        have k2 : X.cell? ⟨wr.heap.size, 2, none⟩ = some (.string nm) := cellB x3 2
        have k3 : X.cell? ⟨wr.heap.size, 3, none⟩ = some (.int .i64 fr) := cellB x3 3
        have k4 : X.cell? ⟨wr.heap.size, 4, none⟩ = some (.int .i64 ad) := cellB x3 4
        have hwX : w.heap.size ≤ X.heap.size := by omega
        have hnews : ∀ j u, (#[.int .i64 pos, .int .i64 kd, .string nm, .int .i64 fr, .int .i64 ad] : Array Value).toList[j]? = some u → (X.alloc (.cells #[.int .i64 pos, .int .i64 kd, .string nm, .int .i64 fr, .int .i64 ad] 121)).cell? ((⟨X.heap.size, 0, none⟩ : Addr).add j) = some u := World.news_of_block (heap_alloc_new X _)
        have HE : Hid (∀ v' w3, (X.alloc (.cells #[.int .i64 pos, .int .i64 kd, .string nm, .int .i64 fr, .int .i64 ad] 121)).grownBy w3 (Value.slice a5 n5 c5).ownBlock → w3.ownsRow w.heap.size 121 5 v' (k + 1) (acc.flatMap encRel ++ (#[.int .i64 pos, .int .i64 kd, .string nm, .int .i64 fr, .int .i64 ad] : Array Value).toList) → MFrag w w3 f C (Value.slice av nv cv) _ cr (k + 1) (acc ++ [⟨pos, kd, nm, fr, ad⟩]) v') := fun v' w3 hg ho =>
          mfrag_step (X := X) hbyX hownX x0 x1 x2 HBX.out hwX hg (by rw [List.flatMap_append]; exact ho) (by rw [List.length_append]; simp; omega)
        clear x0 x1 x2 x3 hbyX HBX
        go_wp2_with (at_builtin; refine wpList_append_own _ rfl _ _ 41 rfl w.heap.size 121 i1 (.agg #[.int .i64 0, .int .i64 0, .string ⟨#[]⟩, .int .i64 0, .int .i64 0]) 5 48 Try.underlying41 hi1 hy0 hy1 hy2 rfl (by decide) _ _ _ rfl (hownX.alloc _) ⟨X.heap.size, 0, none⟩ 1 1 (#[.int .i64 pos, .int .i64 kd, .string nm, .int .i64 fr, .int .i64 ad] : Array Value).toList rfl rfl hnews (fun u hu => by simp at hu; rcases hu with rfl | rfl | rfl | rfl | rfl <;> rfl) (by unfold maxLen; omega) (by omega) (by simp; omega) ?_; intro v' w3 hown' hgrow3 hnil3)
        go_roundw
        case rel => exact ⟨k + 1, acc ++ [⟨pos, kd, nm, fr, ad⟩], by omega, by go_num, HA2, HE.out _ _ hgrow3 hown'⟩
        case measure => simp [intOf]; omega
      · have hb' : nm.toList.isEmpty = true := hb
        have hfr := HF.out hb
        cases h1 : (fr == -1)
        · have HA2 : Hid (acc ++ [⟨pos, kd, nm, M.num ns fr, ad⟩] = (f.rels.take (k + 1)).map (M.movedRel ns)) := by rw [M.movedRel_bare hb h1] at HA1; exact HA1
          have hn1 : (fr != -1) = true := by simpa using h1
          have hge : 0 ≤ fr := by rw [beq_eq_false_iff_ne] at h1; omega
          obtain ⟨j, rfl⟩ : ∃ j : Nat, fr = (j : Int) := ⟨fr.toNat, by omega⟩
          have hj60 : (j : Int) < 60 := hfr.2
          have hnum : M.num ns j = ns.getD j 0 := by unfold M.num; simp
          rw [hnum] at HA2
          have hcj : wr.cell? ⟨w.heap.size + 1, j, none⟩ = some (.int .i64 (ns.getD j 0)) := (cellB q1 j).trans (hC.at' j (by omega))
          clear HA1 hb hnum
          generalize ns.getD j 0 = nw at *
          go_upto_region 8 with fail
          have hownX := hown.alloc (.cells #[.int .i64 pos, .int .i64 kd, .string nm, .int .i64 nw, .int .i64 ad] 121)
          have hbyX := hby.alloc (.cells #[.int .i64 pos, .int .i64 kd, .string nm, .int .i64 nw, .int .i64 ad] 121)
          have HBX : Hid (Below w.heap.size w (wr.alloc (.cells #[.int .i64 pos, .int .i64 kd, .string nm, .int .i64 nw, .int .i64 ad] 121))) := HB.out.alloc hw0 _
          have x0 := (heap_alloc_old wr (.cells #[.int .i64 pos, .int .i64 kd, .string nm, .int .i64 nw, .int .i64 ad] 121) hl0).trans q0
          have x1 := (heap_alloc_old wr (.cells #[.int .i64 pos, .int .i64 kd, .string nm, .int .i64 nw, .int .i64 ad] 121) hl1).trans q1
          have x2 := (heap_alloc_old wr (.cells #[.int .i64 pos, .int .i64 kd, .string nm, .int .i64 nw, .int .i64 ad] 121) hl2).trans q2
          have x3 := heap_alloc_new wr (.cells #[.int .i64 pos, .int .i64 kd, .string nm, .int .i64 nw, .int .i64 ad] 121)
          have hXs : wr.heap.size < (wr.alloc (.cells #[.int .i64 pos, .int .i64 kd, .string nm, .int .i64 nw, .int .i64 ad] 121)).heap.size := by simp
          clear q0 q1 q2 hown hby HB e0 e1 e2 e3 e4
          generalize wr.alloc (.cells #[.int .i64 pos, .int .i64 kd, .string nm, .int .i64 nw, .int .i64 ad] 121) = X at *
          have k0 : X.cell? ⟨wr.heap.size, 0, none⟩ = some (.int .i64 pos) := cellB x3 0
          have k1 : X.cell? ⟨wr.heap.size, 1, none⟩ = some (.int .i64 kd) := cellB x3 1
          have k2 : X.cell? ⟨wr.heap.size, 2, none⟩ = some (.string nm) := cellB x3 2
          have k3 : X.cell? ⟨wr.heap.size, 3, none⟩ = some (.int .i64 nw) := cellB x3 3
          have k4 : X.cell? ⟨wr.heap.size, 4, none⟩ = some (.int .i64 ad) := cellB x3 4
          have hwX : w.heap.size ≤ X.heap.size := by omega
          have hnews : ∀ j u, (#[.int .i64 pos, .int .i64 kd, .string nm, .int .i64 nw, .int .i64 ad] : Array Value).toList[j]? = some u → (X.alloc (.cells #[.int .i64 pos, .int .i64 kd, .string nm, .int .i64 nw, .int .i64 ad] 121)).cell? ((⟨X.heap.size, 0, none⟩ : Addr).add j) = some u := World.news_of_block (heap_alloc_new X _)
          have HE : Hid (∀ v' w3, (X.alloc (.cells #[.int .i64 pos, .int .i64 kd, .string nm, .int .i64 nw, .int .i64 ad] 121)).grownBy w3 (Value.slice a5 n5 c5).ownBlock → w3.ownsRow w.heap.size 121 5 v' (k + 1) (acc.flatMap encRel ++ (#[.int .i64 pos, .int .i64 kd, .string nm, .int .i64 nw, .int .i64 ad] : Array Value).toList) → MFrag w w3 f C (Value.slice av nv cv) _ cr (k + 1) (acc ++ [⟨pos, kd, nm, nw, ad⟩]) v') := fun v' w3 hg ho =>
            mfrag_step (X := X) hbyX hownX x0 x1 x2 HBX.out hwX hg (by rw [List.flatMap_append]; exact ho) (by rw [List.length_append]; simp; omega)
          clear x0 x1 x2 x3 hbyX HBX
          go_wp2_with (at_builtin; refine wpList_append_own _ rfl _ _ 41 rfl w.heap.size 121 i1 (.agg #[.int .i64 0, .int .i64 0, .string ⟨#[]⟩, .int .i64 0, .int .i64 0]) 5 48 Try.underlying41 hi1 hy0 hy1 hy2 rfl (by decide) _ _ _ rfl (hownX.alloc _) ⟨X.heap.size, 0, none⟩ 1 1 (#[.int .i64 pos, .int .i64 kd, .string nm, .int .i64 nw, .int .i64 ad] : Array Value).toList rfl rfl hnews (fun u hu => by simp at hu; rcases hu with rfl | rfl | rfl | rfl | rfl <;> rfl) (by unfold maxLen; omega) (by omega) (by simp; omega) ?_; intro v' w3 hown' hgrow3 hnil3)
          go_roundw
          case rel => exact ⟨k + 1, acc ++ [⟨pos, kd, nm, nw, ad⟩], by omega, by go_num, HA2, HE.out _ _ hgrow3 hown'⟩
          case measure => simp [intOf]; omega
        · have HA2 : Hid (acc ++ [⟨pos, kd, nm, fr, ad⟩] = (f.rels.take (k + 1)).map (M.movedRel ns)) := by rw [M.movedRel_gone h1] at HA1; exact HA1
          have hn1 : (fr != -1) = false := by simpa using h1
          clear HA1 hb
          go_upto_region 8 with fail
          have hownX := hown.alloc (.cells #[.int .i64 pos, .int .i64 kd, .string nm, .int .i64 fr, .int .i64 ad] 121)
          have hbyX := hby.alloc (.cells #[.int .i64 pos, .int .i64 kd, .string nm, .int .i64 fr, .int .i64 ad] 121)
          have HBX : Hid (Below w.heap.size w (wr.alloc (.cells #[.int .i64 pos, .int .i64 kd, .string nm, .int .i64 fr, .int .i64 ad] 121))) := HB.out.alloc hw0 _
          have x0 := (heap_alloc_old wr (.cells #[.int .i64 pos, .int .i64 kd, .string nm, .int .i64 fr, .int .i64 ad] 121) hl0).trans q0
          have x1 := (heap_alloc_old wr (.cells #[.int .i64 pos, .int .i64 kd, .string nm, .int .i64 fr, .int .i64 ad] 121) hl1).trans q1
          have x2 := (heap_alloc_old wr (.cells #[.int .i64 pos, .int .i64 kd, .string nm, .int .i64 fr, .int .i64 ad] 121) hl2).trans q2
          have x3 := heap_alloc_new wr (.cells #[.int .i64 pos, .int .i64 kd, .string nm, .int .i64 fr, .int .i64 ad] 121)
          have hXs : wr.heap.size < (wr.alloc (.cells #[.int .i64 pos, .int .i64 kd, .string nm, .int .i64 fr, .int .i64 ad] 121)).heap.size := by simp
          clear q0 q1 q2 hown hby HB e0 e1 e2 e3 e4
          generalize wr.alloc (.cells #[.int .i64 pos, .int .i64 kd, .string nm, .int .i64 fr, .int .i64 ad] 121) = X at *
          have k0 : X.cell? ⟨wr.heap.size, 0, none⟩ = some (.int .i64 pos) := cellB x3 0
          have k1 : X.cell? ⟨wr.heap.size, 1, none⟩ = some (.int .i64 kd) := cellB x3 1
          have k2 : X.cell? ⟨wr.heap.size, 2, none⟩ = some (.string nm) := cellB x3 2
          have k3 : X.cell? ⟨wr.heap.size, 3, none⟩ = some (.int .i64 fr) := cellB x3 3
          have k4 : X.cell? ⟨wr.heap.size, 4, none⟩ = some (.int .i64 ad) := cellB x3 4
          have hwX : w.heap.size ≤ X.heap.size := by omega
          have hnews : ∀ j u, (#[.int .i64 pos, .int .i64 kd, .string nm, .int .i64 fr, .int .i64 ad] : Array Value).toList[j]? = some u → (X.alloc (.cells #[.int .i64 pos, .int .i64 kd, .string nm, .int .i64 fr, .int .i64 ad] 121)).cell? ((⟨X.heap.size, 0, none⟩ : Addr).add j) = some u := World.news_of_block (heap_alloc_new X _)
          have HE : Hid (∀ v' w3, (X.alloc (.cells #[.int .i64 pos, .int .i64 kd, .string nm, .int .i64 fr, .int .i64 ad] 121)).grownBy w3 (Value.slice a5 n5 c5).ownBlock → w3.ownsRow w.heap.size 121 5 v' (k + 1) (acc.flatMap encRel ++ (#[.int .i64 pos, .int .i64 kd, .string nm, .int .i64 fr, .int .i64 ad] : Array Value).toList) → MFrag w w3 f C (Value.slice av nv cv) _ cr (k + 1) (acc ++ [⟨pos, kd, nm, fr, ad⟩]) v') := fun v' w3 hg ho =>
            mfrag_step (X := X) hbyX hownX x0 x1 x2 HBX.out hwX hg (by rw [List.flatMap_append]; exact ho) (by rw [List.length_append]; simp; omega)
          clear x0 x1 x2 x3 hbyX HBX
          go_wp2_with (at_builtin; refine wpList_append_own _ rfl _ _ 41 rfl w.heap.size 121 i1 (.agg #[.int .i64 0, .int .i64 0, .string ⟨#[]⟩, .int .i64 0, .int .i64 0]) 5 48 Try.underlying41 hi1 hy0 hy1 hy2 rfl (by decide) _ _ _ rfl (hownX.alloc _) ⟨X.heap.size, 0, none⟩ 1 1 (#[.int .i64 pos, .int .i64 kd, .string nm, .int .i64 fr, .int .i64 ad] : Array Value).toList rfl rfl hnews (fun u hu => by simp at hu; rcases hu with rfl | rfl | rfl | rfl | rfl <;> rfl) (by unfold maxLen; omega) (by omega) (by simp; omega) ?_; intro v' w3 hown' hgrow3 hnil3)
          go_roundw
          case rel => exact ⟨k + 1, acc ++ [⟨pos, kd, nm, fr, ad⟩], by omega, by go_num, HA2, HE.out _ _ hgrow3 hown'⟩
          case measure => simp [intOf]; omega
    · have hkl : k = f.rels.length := by omega
      have HA2 : Hid (acc = f.rels.map (M.movedRel ns)) := by rw [Hid, HA.out, hkl, List.take_length]
      clear HA hBy hRl hfit
      subst hkl
      obtain ⟨a5, n5, p5, rfl⟩ := own_form hown
      have c0 : wr.cell? ⟨w.heap.size, 0, none⟩ = some (.int .i64 f.sect) := cellB q0 0
      have c1 : wr.cell? ⟨w.heap.size, 1, none⟩ = some (.int .i64 f.align) := cellB q0 1
      have c2 : wr.cell? ⟨w.heap.size, 2, none⟩ = some (.string f.group) := cellB q0 2
      have c3 : wr.cell? ⟨w.heap.size, 3, none⟩ = some (Value.slice av nv cv) := cellB q0 3
      have c4 : wr.cell? ⟨w.heap.size, 4, none⟩ = some (.int .i64 f.size) := cellB q0 4
      have c5 : wr.cell? ⟨w.heap.size, 5, none⟩ = some (.slice ar f.rels.length cr) := cellB q0 5
      have f5 := frozenB q0 5
      have d0 : wr.cell? ⟨w.heap.size + 2, 0, none⟩ = some (.int .i64 0) := cellB q2 0
      have d1 : wr.cell? ⟨w.heap.size + 2, 1, none⟩ = some (.int .i64 0) := cellB q2 1
      have d2 : wr.cell? ⟨w.heap.size + 2, 2, none⟩ = some (.string ⟨#[]⟩) := cellB q2 2
      have d3 : wr.cell? ⟨w.heap.size + 2, 3, none⟩ = some (.slice none 0 0) := cellB q2 3
      have d4 : wr.cell? ⟨w.heap.size + 2, 4, none⟩ = some (.int .i64 0) := cellB q2 4
      have d5 : wr.cell? ⟨w.heap.size + 2, 5, none⟩ = some (.slice none 0 0) := cellB q2 5
      have g0 := frozenB q2 0
      have g1 := frozenB q2 1
      have g2 := frozenB q2 2
      have g3 := frozenB q2 3
      have g4 := frozenB q2 4
      have g5 := frozenB q2 5
      have x0 := setB' (i := 5) q0 (Value.slice a5 n5 p5)
      have x2 : (wr.setCell ⟨w.heap.size, 5, none⟩ (Value.slice a5 n5 p5)).heap[w.heap.size + 1 + 1]? = some (.cells frgZ 43 (0, 0)) := (Below.heap_setCell _ _ _ _ (by show w.heap.size + 1 + 1 ≠ w.heap.size; omega)).trans q2
      have hbyX := row_setc (i := 5) (u := Value.slice a5 n5 p5) hby q0 (by decide)
      have hownX := row_setc (i := 5) (u := Value.slice a5 n5 p5) hown q0 (by decide)
      have HBX := HB.out.setCell (p := ⟨w.heap.size, 5, none⟩) (Nat.le_refl _) (Value.slice a5 n5 p5)
      have HSt : Hid _ := store6 (wr.setCell ⟨w.heap.size, 5, none⟩ (Value.slice a5 n5 p5)) (w.heap.size + 1 + 1) _ _ _ _ _ _ (.int .i64 f.sect) (.int .i64 f.align) (.string f.group) (Value.slice av nv cv) (.int .i64 f.size) (Value.slice a5 n5 p5) 43 x2
      have HRes : Hid (Below w.heap.size w _ ∧ World.ownsRow _ w.heap.size 5 1 (Value.slice av nv cv) f.bytes.length (f.bytes.map (Value.int .u8)) ∧ World.ownsRow _ w.heap.size 121 5 (Value.slice a5 n5 p5) f.rels.length ((f.rels.map (M.movedRel ns)).flatMap encRel)) :=
        ⟨HBX.grown HSt.out.2 (by simpa using hw0) (fun k hk => by cases hk; omega), hbyX.kept HSt.out.2 (own_ne hbyX x2 (by decide)), by rw [← HA2.out]; exact hownX.kept HSt.out.2 (own_ne hownX x2 (by decide))⟩
      clear x0 x2 hbyX hownX HBX
      go_wp2
      refine bodyPost_ret (v := .agg #[.int .i64 f.sect, .int .i64 f.align, .string f.group, Value.slice av nv cv, .int .i64 f.size, Value.slice a5 n5 p5]) (results_cell_row Try.results79 _ _ (w.heap.size + 1 + 1) 43 _ (0, 0) _ rfl HSt.out.1 Try.underlying43 rfl (by kernel_rfl)) rfl ?_
      exact ⟨HRes.out.1, _, _, rfl, HRes.out.2.1, HRes.out.2.2⟩

end Go.Proofs.Ytebhbhbhcoijpaa
