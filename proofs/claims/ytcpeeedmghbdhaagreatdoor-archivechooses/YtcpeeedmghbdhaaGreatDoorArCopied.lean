/-
  The contract of archive.copied: a part in memory of its own.
-/
import Derived.Test.YtcpeeedmghbdhaaGreatDoorRefMo
namespace Go.Proofs.YtcpeeedmghbdhaaGreatDoor
open Go Go.RowKit
set_option linter.unusedVariables false

set_option maxHeartbeats 8000000 in
set_option maxRecDepth 100000 in
theorem copied_any (p : M.Prt) (a1 a2 : Option Addr) (c1 c2 : Nat) (w : World) (hf : FragsAt w (.slice a1 p.frags.length c1) p.frags) (hd : DefsAt w (.slice a2 p.defs.length c2) p.defs) (hr : Room p) :
    Calls Tryz.prog 16 #[.agg #[.slice a1 p.frags.length c1, .slice a2 p.defs.length c2]] w fun e w' =>
      Below w.heap.size w w' ∧ ∃ es vF vD, e = .returned (.agg #[vF, vD]) ∧ PR w' w.heap.size es p.defs vF vD ∧ es.map (·.f) = p.frags ∧ es.Pairwise Apart := by
  obtain ⟨i0, hi0, hz0, hz1, hz2⟩ := info_parts (P := Tryz.prog) (e := 5) (z := .int .u8 0) (size := 1) (bytes := 1) (by kernel_rfl)
  obtain ⟨i1, hi1, hy0, hy1, hy2⟩ := info_parts (P := Tryz.prog) (e := 61) (z := .agg #[.int .i64 0, .int .i64 0, .string ⟨#[]⟩, .int .i64 0, .int .i64 0]) (size := 5) (bytes := 48) (by kernel_rfl)
  obtain ⟨i2, hi2, hx0, hx1, hx2⟩ := info_parts (P := Tryz.prog) (e := 59) (z := .agg #[.int .i64 0, .int .i64 0, .string ⟨#[]⟩, .slice none 0 0, .int .i64 0, .slice none 0 0]) (size := 6) (bytes := 88) (by kernel_rfl)
  obtain ⟨i3, hi3, hu0, hu1, hu2⟩ := info_parts (P := Tryz.prog) (e := 51) (z := .agg #[.string ⟨#[]⟩, .int .i64 0, .int .i64 0, .int .i64 0, .int .i64 0, .int .i64 0]) (size := 6) (bytes := 56) (by kernel_rfl)
  go_enter Tryz.func16, Tryz.ntmps16
  go_wp2_with fail
  have HY : Hid (OInv w (((w.alloc (.cells #[.slice a1 p.frags.length c1, .slice a2 p.defs.length c2] 39)).alloc (.cells #[.slice none 0 0, .slice none 0 0] 39)).alloc (.cells #[.slice none 0 0, .slice none 0 0] 39)) #[.slice a1 p.frags.length c1, .slice a2 p.defs.length c2] [] [] (.slice none 0 0) (.slice none 0 0)) := by
    have e2 := heap_alloc_new ((w.alloc (.cells #[.slice a1 p.frags.length c1, .slice a2 p.defs.length c2] 39)).alloc (.cells #[.slice none 0 0, .slice none 0 0] 39)) (.cells #[.slice none 0 0, .slice none 0 0] 39)
    refine ⟨(heap_alloc_old _ _ (by simp; omega)).trans (heap_alloc2_old _ _ _), (heap_alloc_old _ _ (by simp)).trans (heap_alloc2_new _ _ _), by simpa using e2, PR.nil _ _, List.Pairwise.nil, ?_⟩
    exact (((Below.refl _ _).alloc (Nat.le_refl _) _).alloc (by simp) _).alloc (by simp; omega) _
  go_loopw [9] (fun s9 wr => ∃ (k : Nat) (es : List Ent) (vF : Value), k ≤ p.frags.length ∧ s9 = .int .i64 k ∧ Hid (es.map (·.f) = p.frags.take k) ∧ es.length = k ∧ OInv w wr #[.slice a1 p.frags.length c1, .slice a2 p.defs.length c2] es [] vF (.slice none 0 0)) (fun s9 _ => p.frags.length - (intOf s9).toNat)
  case atStart => exact ⟨0, [], _, Nat.zero_le _, rfl, rfl, rfl, HY.out⟩
  case round =>
    obtain ⟨k, es, vF, hk, rfl, HE, hek, hM⟩ := hrel
    have HM : Hid (OInv w wr #[.slice a1 p.frags.length c1, .slice a2 p.defs.length c2] es [] vF (.slice none 0 0)) := hM
    have hl0 : w.heap.size < wr.heap.size := (Array.getElem?_eq_some_iff.1 hM.q0).1
    have hl2 : w.heap.size + 2 < wr.heap.size := (Array.getElem?_eq_some_iff.1 hM.q2).1
    clear hM HY
    by_cases hlt : k < p.frags.length
    · obtain ⟨b, off, ab, cb, ar, cr, rfl, e0, e1, e2, e3, e4, e5, hBy, hRl, hg, hbl⟩ := (hf.later HM.out.below).cells k hlt
      have hbr : b < wr.heap.size := World.block_lt_of_cell? _ _ e0
      have hmem := getD_mem p.frags frg0 k hlt
      have h64 := hr.bytes _ hmem
      have h8 := hr.rels _ hmem
      have hnf := hr.nf
      have hkl : (k : Int) < (p.frags.length : Int) := by omega
      have hes : es.length < p.frags.length := by omega
      have HK : Hid (es.length = k) := hek
      clear hek
      have HE1 : Hid (es.map (·.f) ++ [p.frags.getD k frg0] = p.frags.take (k + 1)) := by
        rw [Hid, List.take_succ_eq_append_getElem hlt, HE.out, List.getD_eq_getElem?_getD, List.getElem?_eq_getElem hlt]; rfl
      clear HE hf hd hr
      generalize p.frags.getD k frg0 = f at *
      obtain ⟨s, al, g, bs, sz, rs⟩ := f
      simp only at e0 e1 e2 e3 e4 e5 hBy hRl hg h64 h8
      go_upto_region 5 with fail
      have hbX : Below wr.heap.size wr (wr.alloc (.cells #[.int .i64 s, .int .i64 al, .string g, .slice ab bs.length cb, .int .i64 sz, .slice ar rs.length cr] 59)) := (Below.refl _ _).alloc (Nat.le_refl _) _
      have xf := heap_alloc_new wr (.cells #[.int .i64 s, .int .i64 al, .string g, .slice ab bs.length cb, .int .i64 sz, .slice ar rs.length cr] 59)
      have HX : Hid (OInv w (wr.alloc (.cells #[.int .i64 s, .int .i64 al, .string g, .slice ab bs.length cb, .int .i64 sz, .slice ar rs.length cr] 59)) #[.slice (some ⟨b, off, none⟩) p.frags.length c1, .slice a2 p.defs.length c2] es [] vF (.slice none 0 0)) := HM.out.later hbX
      have sB := (hBy.later hbX).src
      have sR := (hRl.later hbX).src
      have HBy : Hid (BytesAt wr (.slice ab bs.length cb) bs ∧ RelsAt wr (.slice ar rs.length cr) rs) := ⟨hBy, hRl⟩
      clear hBy hRl e0 e1 e2 e3 e4 e5
      generalize wr.alloc (.cells #[.int .i64 s, .int .i64 al, .string g, .slice ab bs.length cb, .int .i64 sz, .slice ar rs.length cr] 59) = X at *
      have hnX : wr.heap.size < X.heap.size := (Array.getElem?_eq_some_iff.1 xf).1
      have d3 : X.cell? ⟨wr.heap.size, 3, none⟩ = some (.slice ab bs.length cb) := cellB xf 3
      have d5 : X.cell? ⟨wr.heap.size, 5, none⟩ = some (.slice ar rs.length cr) := cellB xf 5
      have hD : Below X.heap.size X X.drew := (Below.refl _ _).drew
      have hP1 : ∀ o, Below X.heap.size X (X.drew.alloc o) := fun o => hD.alloc (Nat.le_refl _) o
      have hP2 : ∀ o o', Below X.heap.size X ((X.drew.alloc o).alloc o') := fun o o' => (hP1 o).alloc (by simp) o'
      have HS : Hid (∀ W, Below X.heap.size X W → W.cell? ⟨wr.heap.size, 3, none⟩ = some (.slice ab bs.length cb) ∧ W.cell? ⟨wr.heap.size, 5, none⟩ = some (.slice ar rs.length cr) ∧ W.frozen? ⟨wr.heap.size, 3, none⟩ = false ∧ W.frozen? ⟨wr.heap.size, 5, none⟩ = false ∧ wr.heap.size < W.heap.size) := fun W hW => by
        have y := (hW.block _ hnX).trans xf
        exact ⟨cellB y 3, cellB y 5, frozenB y 3, frozenB y 5, (Array.getElem?_eq_some_iff.1 y).1⟩
      have hnone : ∀ W w3, Below X.heap.size X W → W.grownBy w3 (Value.slice none 0 0).ownBlock → Below X.heap.size X w3 := fun W w3 hW hg => hW.trans ⟨hg.os, hg.tape, hg.output, hg.size, fun k hk => hg.block k (Nat.lt_of_lt_of_le hk hW.size) (by simp [Value.ownBlock])⟩
      have HSR : Hid (∀ W, Below wr.heap.size wr W → Src W (.slice ar rs.length cr) rs.length (rs.flatMap encRel)) := fun W hW => (HBy.out.2.later hW).src
      go_upto_region 6 with (at_builtin; refine wpList_append_src _ rfl _ _ 56 rfl X.heap.size 5 i0 (.int .u8 0) 1 1 Tryz.underlying56 hi0 hz0 hz1 hz2 rfl (by decide) (.slice none 0 0) 0 [] rfl (World.ownsRow_nil _ _ _ _) _ bs.length (bs.map (Value.int .u8)) rfl sB (by simp) (fun u hu => by obtain ⟨b, _, rfl⟩ := List.mem_map.1 hu; rfl) (by unfold maxLen; omega) (by omega) (Nat.le_refl _) ?_; intro bv w3 hob hg3; rw [Nat.zero_add, List.nil_append] at hob; obtain ⟨xb, yb, rfl⟩ := own_len hob; have hb3 := hnone X w3 (Below.refl _ _) hg3; obtain ⟨z3, z5, f3, f5, hz⟩ := HS.out w3 hb3)
      have HX3 : Hid (Below X.heap.size X w3 ∧ w3.ownsRow X.heap.size 5 1 (.slice xb bs.length yb) bs.length (bs.map (Value.int .u8))) := ⟨hb3, hob⟩
      have hq3 := (hb3.block _ hnX).trans xf
      have hq4 : (w3.setCell ⟨wr.heap.size, 3, none⟩ (.slice xb bs.length yb)).heap[wr.heap.size]? = some (.cells #[.int .i64 s, .int .i64 al, .string g, .slice xb bs.length yb, .int .i64 sz, .slice ar rs.length cr] 59 (0, 0)) := setB' hq3 _
      have hB4 : Below wr.heap.size wr (w3.setCell ⟨wr.heap.size, 3, none⟩ (.slice xb bs.length yb)) := (hbX.trans (hb3.mono hbX.size)).setCell (Nat.le_refl _) _
      have hO4 : (w3.setCell ⟨wr.heap.size, 3, none⟩ (.slice xb bs.length yb)).ownsRow X.heap.size 5 1 (.slice xb bs.length yb) bs.length (bs.map (Value.int .u8)) := row_setc hob hq3 (by decide)
      have hs4 : X.heap.size ≤ (w3.setCell ⟨wr.heap.size, 3, none⟩ (.slice xb bs.length yb)).heap.size := by simpa using hb3.size
      clear hq3 HX3 hob hg3 hb3 z3 z5 f3 f5 hz
      generalize w3.setCell ⟨wr.heap.size, 3, none⟩ (.slice xb bs.length yb) = X4 at *
      have sR4 := HSR.out X4 hB4
      have d5' : X4.cell? ⟨wr.heap.size, 5, none⟩ = some (.slice ar rs.length cr) := cellB hq4 5
      have hn4 : wr.heap.size < X4.heap.size := (Array.getElem?_eq_some_iff.1 hq4).1
      go_upto_region 7 with (at_builtin; refine wpList_append_src _ rfl _ _ 57 rfl X.heap.size 61 i1 (.agg #[.int .i64 0, .int .i64 0, .string ⟨#[]⟩, .int .i64 0, .int .i64 0]) 5 48 Tryz.underlying57 hi1 hy0 hy1 hy2 rfl (by decide) (.slice none 0 0) 0 [] rfl (World.ownsRow_nil _ _ _ _) _ rs.length (rs.flatMap encRel) rfl sR4 (flat_len 5 encRel (fun _ => rfl) rs) (rels_one rs) (by unfold maxLen; omega) (by omega) hs4 ?_; intro rv w5 hor hg5; rw [Nat.zero_add, List.nil_append] at hor; obtain ⟨xr, yr, rfl⟩ := own_len hor; have hb5 : Below X4.heap.size X4 w5 := ⟨hg5.os, hg5.tape, hg5.output, hg5.size, fun k hk => hg5.block k hk (by simp [Value.ownBlock])⟩; have hq5 := (hb5.block _ hn4).trans hq4; have z5 : w5.cell? ⟨wr.heap.size, 5, none⟩ = some (.slice ar rs.length cr) := cellB hq5 5; have f5 := frozenB hq5 5)
      have hO : OwnF wr (w5.setCell ⟨wr.heap.size, 5, none⟩ (.slice xr rs.length yr)) wr.heap.size X.heap.size ⟨s, al, g, bs, sz, rs⟩ (.slice xb bs.length yb) (.slice xr rs.length yr) :=
        ⟨setB' hq5 _, row_setc (hO4.kept (grown_of_below hb5 none) own_self) hq5 (by decide), row_setc hor hq5 (by decide), (hB4.trans (hb5.mono hB4.size)).setCell (Nat.le_refl _) _⟩
      clear hq5 hb5 hg5 hor z5 f5 hO4 hB4 hq4 sR4 d5' hn4 hs4 HSR hnone
      generalize w5.setCell ⟨wr.heap.size, 5, none⟩ (.slice xr rs.length yr) = wc at *
      have HC : Hid (OInv w wc #[.slice (some ⟨b, off, none⟩) p.frags.length c1, .slice a2 p.defs.length c2] es [] vF (.slice none 0 0)) := HM.out.later hO.below
      have HO : Hid (OwnF wr wc wr.heap.size X.heap.size ⟨s, al, g, bs, sz, rs⟩ (.slice xb bs.length yb) (.slice xr rs.length yr)) := hO
      have k0 : wc.cell? ⟨wr.heap.size, 0, none⟩ = some (.int .i64 s) := cellB hO.blk 0
      have k1 : wc.cell? ⟨wr.heap.size, 1, none⟩ = some (.int .i64 al) := cellB hO.blk 1
      have k2 : wc.cell? ⟨wr.heap.size, 2, none⟩ = some (.string g) := cellB hO.blk 2
      have k3 : wc.cell? ⟨wr.heap.size, 3, none⟩ = some (.slice xb bs.length yb) := cellB hO.blk 3
      have k4 : wc.cell? ⟨wr.heap.size, 4, none⟩ = some (.int .i64 sz) := cellB hO.blk 4
      have k5 : wc.cell? ⟨wr.heap.size, 5, none⟩ = some (.slice xr rs.length yr) := cellB hO.blk 5
      have hnc : wr.heap.size < wc.heap.size := (Array.getElem?_eq_some_iff.1 hO.blk).1
      obtain ⟨aV, cV, rfl⟩ := own_len HC.out.pr.rowF
      have o0 : wc.cell? ⟨w.heap.size + 2, 0, none⟩ = some (.slice aV es.length cV) := cellB HC.out.q2 0
      have hwc : w.heap.size ≤ wc.heap.size := HC.out.below.size
      have hl2c : w.heap.size + 2 < wc.heap.size := by omega
      clear hO xf d3 d5 hD hP1 hP2 HS sB sR
      have hAl : Below wc.heap.size wc (wc.alloc (.cells #[.int .i64 s, .int .i64 al, .string g, .slice xb bs.length yb, .int .i64 sz, .slice xr rs.length yr] 59)) := (Below.refl _ _).alloc (Nat.le_refl _) _
      have hnews : ∀ j u, (#[.int .i64 s, .int .i64 al, .string g, .slice xb bs.length yb, .int .i64 sz, .slice xr rs.length yr] : Array Value).toList[j]? = some u → (wc.alloc (.cells #[.int .i64 s, .int .i64 al, .string g, .slice xb bs.length yb, .int .i64 sz, .slice xr rs.length yr] 59)).cell? ((⟨wc.heap.size, 0, none⟩ : Addr).add j) = some u := World.news_of_block (heap_alloc_new wc _)
      have hsmall : (∀ b ∈ bs, 0 ≤ b ∧ b < 256) ∧ g.size ≤ maxLen ∧ ∀ r ∈ rs, r.name.size ≤ maxLen ∧ (Lit.int .i64 r.kind).wf = true := ⟨HBy.out.1.2, hg, HBy.out.2.2⟩
      have HEnd : Hid (∀ v' w5, (wc.alloc (.cells #[.int .i64 s, .int .i64 al, .string g, .slice xb bs.length yb, .int .i64 sz, .slice xr rs.length yr] 59)).grownBy w5 (Value.slice aV es.length cV).ownBlock → w5.ownsRow w.heap.size 59 6 v' (es.length + 1) (es.flatMap entCells ++ (#[.int .i64 s, .int .i64 al, .string g, .slice xb bs.length yb, .int .i64 sz, .slice xr rs.length yr] : Array Value).toList) → OInv w (w5.setCell ⟨w.heap.size + 2, 0, none⟩ v') #[.slice (some ⟨b, off, none⟩) p.frags.length c1, .slice a2 p.defs.length c2] (es ++ [⟨⟨s, al, g, bs, sz, rs⟩, .slice xb bs.length yb, .slice xr rs.length yr⟩]) [] v' (.slice none 0 0)) := fun v' w5 hg5 ho5 =>
        oinv_addF (e := ⟨⟨s, al, g, bs, sz, rs⟩, .slice xb bs.length yb, .slice xr rs.length yr⟩) HM.out (HC.out.later hAl) hg5 ho5 X.heap.size (by omega) (HO.out.bytes.kept (grown_of_below hAl none) own_self) (HO.out.rels.kept (grown_of_below hAl none) own_self) hsmall
      have HQ2 : Hid (∀ w5, (wc.alloc (.cells #[.int .i64 s, .int .i64 al, .string g, .slice xb bs.length yb, .int .i64 sz, .slice xr rs.length yr] 59)).grownBy w5 (Value.slice aV es.length cV).ownBlock → w5.heap[w.heap.size + 2]? = some (.cells #[.slice aV es.length cV, .slice none 0 0] 39 (0, 0))) := fun w5 hg5 => block_kept (HC.out.later hAl).pr.rowF hg5 (HC.out.later hAl).q2 (by decide)
      have hrowA := (HC.out.later hAl).pr.rowF
      clear hsmall hAl HBy
      go_wp2_with (at_builtin; refine wpList_append_own _ rfl _ _ 36 rfl w.heap.size 59 i2 (.agg #[.int .i64 0, .int .i64 0, .string ⟨#[]⟩, .slice none 0 0, .int .i64 0, .slice none 0 0]) 6 88 Tryz.underlying36 hi2 hx0 hx1 hx2 rfl (by decide) _ _ _ rfl hrowA ⟨wc.heap.size, 0, none⟩ 1 1 (#[.int .i64 s, .int .i64 al, .string g, .slice xb bs.length yb, .int .i64 sz, .slice xr rs.length yr] : Array Value).toList rfl rfl hnews (fun u hu => by simp at hu; rcases hu with rfl | rfl | rfl | rfl | rfl | rfl <;> rfl) (by unfold maxLen; omega) (by omega) (by simp; omega) ?_; intro v5 w5 ho5 hg5 hn5; obtain ⟨a5, c5, rfl⟩ := own_len ho5; have hq5 := HQ2.out w5 hg5; have m0 : w5.cell? ⟨w.heap.size + 2, 0, none⟩ = some (.slice aV es.length cV) := cellB hq5 0; have mz0 := frozenB hq5 0)
      have HFin := HEnd.out _ _ hg5 ho5
      go_roundw
      case rel => exact ⟨k + 1, _, _, by omega, by go_num, by rw [Hid, List.map_append]; exact HE1.out, by rw [List.length_append, HK.out]; rfl, HFin⟩
      case measure => simp [intOf]; omega
    · have hkl : k = p.frags.length := by omega
      have HE2 : Hid (es.map (·.f) = p.frags) := by rw [Hid, HE.out, hkl, List.take_length]
      clear HE hkl hek
      have hnd := hr.nd
      have c11 : wr.cell? ⟨w.heap.size, 1, none⟩ = some (.slice a2 p.defs.length c2) := cellB HM.out.q0 1
      have hw0 : w.heap.size ≤ wr.heap.size := by omega
      have sD := (hd.later HM.out.below).src
      have hsD : Hid (∀ d ∈ p.defs, d.name.size ≤ maxLen) := hd.2
      have HO3 : Hid (∀ w3, wr.grownBy w3 (Value.slice none 0 0).ownBlock → OInv w w3 #[.slice a1 p.frags.length c1, .slice a2 p.defs.length c2] es [] vF (.slice none 0 0)) := fun w3 hg3 => HM.out.later ⟨hg3.os, hg3.tape, hg3.output, hg3.size, fun k hk => hg3.block k hk (by simp [Value.ownBlock])⟩
      have n1' : wr.cell? ⟨w.heap.size + 2, 1, none⟩ = some (.slice none 0 0) := cellB HM.out.q2 1
      obtain ⟨aV, cV, rfl⟩ := own_len HM.out.pr.rowF
      clear hf hd hr
      go_wp2_with (at_builtin; refine wpList_append_src _ rfl _ _ 37 rfl wr.heap.size 51 i3 (.agg #[.string ⟨#[]⟩, .int .i64 0, .int .i64 0, .int .i64 0, .int .i64 0, .int .i64 0]) 6 56 Tryz.underlying37 hi3 hu0 hu1 hu2 rfl (by decide) (.slice none 0 0) 0 [] rfl (World.ownsRow_nil _ _ _ _) _ p.defs.length (p.defs.flatMap encDfn) rfl sD (flat_len 6 encDfn (fun _ => rfl) p.defs) (defs_one p.defs) (by unfold maxLen; omega) (by omega) (Nat.le_refl _) ?_; intro vD w3 hoD hg3; obtain ⟨aD, cD, rfl⟩ := own_len hoD; refine Hid.out ?_)
      rw [Nat.zero_add, List.nil_append] at hoD
      have hO3 := HO3.out w3 hg3
      have hz2 : w.heap.size + 2 < w3.heap.size := (Array.getElem?_eq_some_iff.1 hO3.q2).1
      have n0 : w3.cell? ⟨w.heap.size + 2, 0, none⟩ = some (.slice aV es.length cV) := cellB hO3.q2 0
      have n1 : w3.cell? ⟨w.heap.size + 2, 1, none⟩ = some (.slice none 0 0) := cellB hO3.q2 1
      have z1 := frozenB hO3.q2 1
      have r0 : w3.cell? ⟨w.heap.size + 1, 0, none⟩ = some (.slice none 0 0) := cellB hO3.q1 0
      have r1 : w3.cell? ⟨w.heap.size + 1, 1, none⟩ = some (.slice none 0 0) := cellB hO3.q1 1
      have y0 := frozenB hO3.q1 0
      have y1 := frozenB hO3.q1 1
      have hP : PR w3 w.heap.size es p.defs (.slice aV es.length cV) (.slice aD p.defs.length cD) := ⟨hO3.pr.rowF, row_base hoD hw0, hO3.pr.bytes, hO3.pr.small, hsD.out, hO3.pr.rels⟩
      have q2' : (w3.setCell ⟨w.heap.size + 2, 1, none⟩ (.slice aD p.defs.length cD)).heap[w.heap.size + 1]? = some (.cells #[.slice none 0 0, .slice none 0 0] 39 (0, 0)) := (Below.heap_setCell _ _ _ _ (by show w.heap.size + 1 ≠ w.heap.size + 2; omega)).trans hO3.q1
      have q3' : ((w3.setCell ⟨w.heap.size + 2, 1, none⟩ (.slice aD p.defs.length cD)).setCell ⟨w.heap.size + 1, 0, none⟩ (.slice aV es.length cV)).heap[w.heap.size + 1]? = some (.cells #[.slice aV es.length cV, .slice none 0 0] 39 (0, 0)) := setB' q2' _
      have HP : Hid (PR (((w3.setCell ⟨w.heap.size + 2, 1, none⟩ (.slice aD p.defs.length cD)).setCell ⟨w.heap.size + 1, 0, none⟩ (.slice aV es.length cV)).setCell ⟨w.heap.size + 1, 1, none⟩ (.slice aD p.defs.length cD)) w.heap.size es p.defs (.slice aV es.length cV) (.slice aD p.defs.length cD)) := ((hP.set hO3.q2).set q2').set q3'
      have HB : Hid (Below w.heap.size w (((w3.setCell ⟨w.heap.size + 2, 1, none⟩ (.slice aD p.defs.length cD)).setCell ⟨w.heap.size + 1, 0, none⟩ (.slice aV es.length cV)).setCell ⟨w.heap.size + 1, 1, none⟩ (.slice aD p.defs.length cD))) := ((hO3.below.setCell (by show w.heap.size ≤ w.heap.size + 2; omega) _).setCell (by show w.heap.size ≤ w.heap.size + 1; omega) _).setCell (by show w.heap.size ≤ w.heap.size + 1; omega) _
      have HAp : Hid (es.Pairwise Apart) := hO3.ap
      clear hO3 hP q2' q3' hoD hg3 HO3 sD c11 HM n1'
      refine Lib.hid ?_
      go_wp2
      refine bodyPost_ret (v := .agg #[.slice aV es.length cV, .slice aD p.defs.length cD]) (by simp [results, Tryz.results16, go_sem, r0, r1]) rfl ?_
      exact ⟨HB.out, es, _, _, rfl, HP.out, HE2.out, HAp.out⟩

end Go.Proofs.YtcpeeedmghbdhaaGreatDoor
