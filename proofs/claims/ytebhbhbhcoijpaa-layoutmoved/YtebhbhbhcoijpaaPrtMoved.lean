/-
  The contract of part.moved.
-/
import Derived.Test.YtebhbhbhcoijpaaPrtMem
import Derived.Deep.RegionHeld3
namespace Go.Proofs.Ytebhbhbhcoijpaa
open Go.RowKit
set_option linter.unusedVariables false

/-- what a part must be for moved: few, short, and its numbers of fragments below sixty -/
structure Movable (fs : List M.Frg) (ds : List M.Dfn) : Prop where
  nf : fs.length ≤ 60
  nd : ds.length ≤ 60
  bytes : ∀ f ∈ fs, f.bytes.length ≤ 64
  nrels : ∀ f ∈ fs, f.rels.length ≤ 8
  rels : ∀ f ∈ fs, ∀ r ∈ f.rels, M.bare r.name = true → -1 ≤ r.frag ∧ r.frag < 60
  defs : ∀ d ∈ ds, (d.kind == 3) = false → 0 ≤ d.frag ∧ d.frag < 60

structure MPart (w wr : World) (fs : List M.Frg) (ds : List M.Dfn) (C : Array Value) (aF aD : Option Addr) (cF cD : Nat) (es : List Ent) (gs : List M.Dfn) (vF vD : Value) : Prop where
  q0 : wr.heap[w.heap.size]? = some (.cells #[.slice aF fs.length cF, .slice aD ds.length cD] 25 (0, 0))
  q1 : wr.heap[w.heap.size + 1]? = some (.cells C 78 (0, 0))
  q2 : wr.heap[w.heap.size + 2]? = some (.cells #[.slice none 0 0, .slice none 0 0] 25 (0, 0))
  q3 : wr.heap[w.heap.size + 3]? = some (.cells #[vF, vD] 25 (0, 0))
  pr : PR wr w.heap.size es gs vF vD
  below : Below w.heap.size w wr

theorem mpart_later {w wr X : World} {fs : List M.Frg} {ds : List M.Dfn} {C : Array Value} {aF aD : Option Addr} {cF cD : Nat} {es : List Ent} {gs : List M.Dfn} {vF vD : Value} (h : MPart w wr fs ds C aF aD cF cD es gs vF vD) (hb : Below wr.heap.size wr X) : MPart w X fs ds C aF aD cF cD es gs vF vD :=
  ⟨(hb.block _ (Array.getElem?_eq_some_iff.1 h.q0).1).trans h.q0, (hb.block _ (Array.getElem?_eq_some_iff.1 h.q1).1).trans h.q1, (hb.block _ (Array.getElem?_eq_some_iff.1 h.q2).1).trans h.q2, (hb.block _ (Array.getElem?_eq_some_iff.1 h.q3).1).trans h.q3, h.pr.later hb, h.below.trans (hb.mono h.below.size)⟩

/-- a fragment was appended and the part holds the new row -/
theorem mpart_addF {w X w5 : World} {fs : List M.Frg} {ds : List M.Dfn} {C : Array Value} {aF aD : Option Addr} {cF cD : Nat} {es : List Ent} {gs : List M.Dfn} {vF vD v' : Value} {e : Ent} (h : MPart w X fs ds C aF aD cF cD es gs vF vD)
    (hg : X.grownBy w5 vF.ownBlock) (hrow : w5.ownsRow w.heap.size 43 6 v' (es.length + 1) (es.flatMap entCells ++ entCells e))
    (hby : X.ownsRow w.heap.size 5 1 e.bv e.f.bytes.length (e.f.bytes.map (Value.int .u8))) (hrl : X.ownsRow w.heap.size 121 5 e.rv e.f.rels.length (e.f.rels.flatMap encRel))
    (hsm : (∀ b ∈ e.f.bytes, 0 ≤ b ∧ b < 256) ∧ e.f.group.size ≤ maxLen ∧ ∀ r ∈ e.f.rels, r.name.size ≤ maxLen ∧ (Lit.int .i64 r.kind).wf = true) :
    MPart w (w5.setCell ⟨w.heap.size + 3, 0, none⟩ v') fs ds C aF aD cF cD (es ++ [e]) gs v' vD := by
  have z0 := block_kept h.pr.rowF hg h.q0 (by decide)
  have z1 := block_kept h.pr.rowF hg h.q1 (by decide)
  have z2 := block_kept h.pr.rowF hg h.q2 (by decide)
  have z3 := block_kept h.pr.rowF hg h.q3 (by decide)
  have hp : PR w5 w.heap.size (es ++ [e]) gs v' vD := h.pr.growF hg (by simpa using hrow) (fun x hx => by rw [List.mem_singleton.1 hx]; exact hby) (fun x hx => by rw [List.mem_singleton.1 hx]; exact hrl) (fun x hx => by rw [List.mem_singleton.1 hx]; exact hsm)
  refine ⟨(Below.heap_setCell _ _ _ _ (by show w.heap.size ≠ w.heap.size + 3; omega)).trans z0, (Below.heap_setCell _ _ _ _ (by show w.heap.size + 1 ≠ w.heap.size + 3; omega)).trans z1, (Below.heap_setCell _ _ _ _ (by show w.heap.size + 2 ≠ w.heap.size + 3; omega)).trans z2, setB' z3 v', hp.set z3, ?_⟩
  exact (h.below.grown hg h.below.size (fun k hk => (h.pr.rowF.lt k hk).1)).setCell (by show w.heap.size ≤ w.heap.size + 3; omega) _

/-- a definition was appended and the part holds the new row -/
theorem mpart_addD {w X w5 : World} {fs : List M.Frg} {ds : List M.Dfn} {C : Array Value} {aF aD : Option Addr} {cF cD : Nat} {es : List Ent} {gs : List M.Dfn} {vF vD v' : Value} {d : M.Dfn} (h : MPart w X fs ds C aF aD cF cD es gs vF vD)
    (hg : X.grownBy w5 vD.ownBlock) (hrow : w5.ownsRow w.heap.size 69 6 v' (gs.length + 1) (gs.flatMap encDfn ++ encDfn d)) (hsm : d.name.size ≤ maxLen) :
    MPart w (w5.setCell ⟨w.heap.size + 3, 1, none⟩ v') fs ds C aF aD cF cD es (gs ++ [d]) vF v' := by
  have z0 := block_kept h.pr.rowD hg h.q0 (by decide)
  have z1 := block_kept h.pr.rowD hg h.q1 (by decide)
  have z2 := block_kept h.pr.rowD hg h.q2 (by decide)
  have z3 := block_kept h.pr.rowD hg h.q3 (by decide)
  have hp : PR w5 w.heap.size es (gs ++ [d]) vF v' := h.pr.growD hg (by simpa using hrow) (fun x hx => by rw [List.mem_singleton.1 hx]; exact hsm)
  refine ⟨(Below.heap_setCell _ _ _ _ (by show w.heap.size ≠ w.heap.size + 3; omega)).trans z0, (Below.heap_setCell _ _ _ _ (by show w.heap.size + 1 ≠ w.heap.size + 3; omega)).trans z1, (Below.heap_setCell _ _ _ _ (by show w.heap.size + 2 ≠ w.heap.size + 3; omega)).trans z2, setB' z3 v', hp.set z3, ?_⟩
  exact (h.below.grown hg h.below.size (fun k hk => (h.pr.rowD.lt k hk).1)).setCell (by show w.heap.size ≤ w.heap.size + 3; omega) _

theorem defs_take (ns : List Int) (ds : List M.Dfn) (k : Nat) (hk : k < ds.length) :
    M.movedDefs ns (ds.take (k + 1)) = M.movedDefs ns (ds.take k) ++ (bif (M.movedDfn ns (ds.getD k dfn0)).frag == -1 then [] else [M.movedDfn ns (ds.getD k dfn0)]) := by
  unfold M.movedDefs
  rw [List.take_succ_eq_append_getElem hk, List.map_append, List.filter_append]
  congr 1
  rw [List.getD_eq_getElem?_getD, List.getElem?_eq_getElem hk]
  simp only [Option.getD_some, List.map_cons, List.map_nil, List.filter_cons, List.filter_nil]
  cases ((M.movedDfn ns ds[k]).frag == -1) <;> rfl

theorem frags_take (ns : List Int) (fs : List M.Frg) (k : Nat) (hk : k < fs.length) (hn : k < ns.length) :
    (((fs.zip ns).take (k + 1)).filter fun x => !(x.2 == -1)).map (fun x => M.movedFrg ns x.1) = (((fs.zip ns).take k).filter fun x => !(x.2 == -1)).map (fun x => M.movedFrg ns x.1) ++ (bif ns.getD k 0 == -1 then [] else [M.movedFrg ns (fs.getD k frg0)]) := by
  have hz : k < (fs.zip ns).length := by rw [List.length_zip]; omega
  rw [List.take_succ_eq_append_getElem hz, List.filter_append, List.map_append]
  congr 1
  rw [List.getElem_zip, List.getD_eq_getElem?_getD, List.getElem?_eq_getElem hn, List.getD_eq_getElem?_getD, List.getElem?_eq_getElem hk]
  simp only [Option.getD_some, List.filter_cons, List.filter_nil]
  cases (ns[k] == -1) <;> rfl

theorem load_row60 {P : Program} (w : World) (g : Nat) (c : Array Value) (n : Nat) (hn : c.size = n) (t : TypeId) (h : w.heap[g]? = some (.cells c t (0, 0))) :
    (loadCellsFrom ⟨g, 0, none⟩ 0 n #[]).run P w = .ok c w := by
  have := run_loadCells_list (P := P) w ⟨g, 0, none⟩ c.toList (fun j v hv => by
    have hadd : (⟨g, 0, none⟩ : Addr).add j = ⟨g, j, none⟩ := by unfold Addr.add; split <;> simp_all
    rw [hadd, cellB h]
    simpa using hv)
  rw [Array.length_toList, hn] at this
  simpa [loadCells] using this

set_option maxHeartbeats 8000000 in
set_option maxRecDepth 100000 in
theorem moved_any (fs : List M.Frg) (ds : List M.Dfn) (ns : List Int) (C : Array Value) (aF aD : Option Addr) (cF cD : Nat) (w : World) (hC : Nums C ns) (hns : ns.length = fs.length)
    (hf : FragsAt w (.slice aF fs.length cF) fs) (hd : DefsAt w (.slice aD ds.length cD) ds) (hm : Movable fs ds) :
    Calls Try.prog 42 #[.agg #[.slice aF fs.length cF, .slice aD ds.length cD], .agg C] w fun e w' =>
      Below w.heap.size w w' ∧ ∃ es vF vD, e = .returned (.agg #[vF, vD]) ∧ PR w' w.heap.size es (M.movedDefs ns ds) vF vD ∧ es.map (·.f) = M.movedFrags ns fs := by
  obtain ⟨i0, hi0, hz0, hz1, hz2⟩ := info_parts (P := Try.prog) (e := 43) (z := .agg #[.int .i64 0, .int .i64 0, .string ⟨#[]⟩, .slice none 0 0, .int .i64 0, .slice none 0 0]) (size := 6) (bytes := 88) (by kernel_rfl)
  obtain ⟨i1, hi1, hy0, hy1, hy2⟩ := info_parts (P := Try.prog) (e := 69) (z := .agg #[.string ⟨#[]⟩, .int .i64 0, .int .i64 0, .int .i64 0, .int .i64 0, .int .i64 0]) (size := 6) (bytes := 56) (by kernel_rfl)
  go_enter Try.func42, Try.ntmps42
  go_wp2_with fail
  have HY : Hid (MPart w ((((w.alloc (.cells #[.slice aF fs.length cF, .slice aD ds.length cD] 25)).alloc (.cells C 78)).alloc (.cells #[.slice none 0 0, .slice none 0 0] 25)).alloc (.cells #[.slice none 0 0, .slice none 0 0] 25)) fs ds C aF aD cF cD [] [] (.slice none 0 0) (.slice none 0 0)) := by
    have e3 : ((((w.alloc (.cells #[.slice aF fs.length cF, .slice aD ds.length cD] 25)).alloc (.cells C 78)).alloc (.cells #[.slice none 0 0, .slice none 0 0] 25)).alloc (.cells #[.slice none 0 0, .slice none 0 0] 25)).heap[w.heap.size + 3]? = some (.cells #[.slice none 0 0, .slice none 0 0] 25 (0, 0)) := by
      have := heap_alloc_new (((w.alloc (.cells #[.slice aF fs.length cF, .slice aD ds.length cD] 25)).alloc (.cells C 78)).alloc (.cells #[.slice none 0 0, .slice none 0 0] 25)) (.cells #[.slice none 0 0, .slice none 0 0] 25)
      simpa using this
    have e2 : (((w.alloc (.cells #[.slice aF fs.length cF, .slice aD ds.length cD] 25)).alloc (.cells C 78)).alloc (.cells #[.slice none 0 0, .slice none 0 0] 25)).heap[w.heap.size + 2]? = some (.cells #[.slice none 0 0, .slice none 0 0] 25 (0, 0)) := by
      have := heap_alloc_new ((w.alloc (.cells #[.slice aF fs.length cF, .slice aD ds.length cD] 25)).alloc (.cells C 78)) (.cells #[.slice none 0 0, .slice none 0 0] 25)
      simpa using this
    refine ⟨(heap_alloc_old _ _ (by simp; omega)).trans ((heap_alloc_old _ _ (by simp; omega)).trans (heap_alloc2_old _ _ _)), (heap_alloc_old _ _ (by simp)).trans ((heap_alloc_old _ _ (by simp)).trans (heap_alloc2_new _ _ _)), (heap_alloc_old _ _ (by simp)).trans e2, e3, PR.nil _ _, ?_⟩
    exact ((((Below.refl _ _).alloc (Nat.le_refl _) _).alloc (by simp) _).alloc (by simp; omega) _).alloc (by simp; omega) _
  go_loopw [13] (fun s13 wr => ∃ (k : Nat) (es : List Ent) (vF : Value), k ≤ fs.length ∧ s13 = .int .i64 k ∧ Hid (es.map (·.f) = (((fs.zip ns).take k).filter fun x => !(x.2 == -1)).map (fun x => M.movedFrg ns x.1)) ∧ es.length ≤ k ∧ MPart w wr fs ds C aF aD cF cD es [] vF (.slice none 0 0)) (fun s13 _ => fs.length - (intOf s13).toNat)
  case atStart => exact ⟨0, [], _, Nat.zero_le _, rfl, rfl, Nat.le_refl _, HY.out⟩
  case round =>
    obtain ⟨k, es, vF, hk, rfl, HE, hek, hM⟩ := hrel
    obtain ⟨q0, q1, q2, q3, hPR, hB⟩ := hM
    have HB : Hid (Below w.heap.size w wr) := hB
    clear hB HY
    have hl0 : w.heap.size < wr.heap.size := (Array.getElem?_eq_some_iff.1 q0).1
    have hl1 : w.heap.size + 1 < wr.heap.size := (Array.getElem?_eq_some_iff.1 q1).1
    have hl2 : w.heap.size + 2 < wr.heap.size := (Array.getElem?_eq_some_iff.1 q2).1
    have hl3 : w.heap.size + 3 < wr.heap.size := (Array.getElem?_eq_some_iff.1 q3).1
    by_cases hlt : k < fs.length
    · obtain ⟨b, off, ab, cb, ar, cr, rfl, e0, e1, e2, e3, e4, e5, hBy, hRl, hg, hbl⟩ := (hf.later HB.out).cells k hlt
      have hbr : b < wr.heap.size := World.block_lt_of_cell? _ _ e0
      have hkn : k < ns.length := by omega
      have HE1 := frags_take ns fs k hlt hkn
      rw [← HE.out] at HE1
      have hmem := getD_mem fs frg0 k hlt
      have h64 := hm.bytes _ hmem
      have h8 := hm.nrels _ hmem
      have hfit := hm.rels _ hmem
      have h60 := hm.nf
      have hk60 : (k : Int) < 60 := by omega
      have hk0 : (0 : Int) ≤ (k : Int) := by omega
      have hkl : (k : Int) < (fs.length : Int) := by omega
      have hck : wr.cell? ⟨w.heap.size + 1, k, none⟩ = some (.int .i64 (ns.getD k 0)) := (cellB q1 k).trans (hC.at' k (by omega))
      clear HE hf hd hm
      generalize ns.getD k 0 = nk at *
      generalize fs.getD k frg0 = f at *
      obtain ⟨s, al, g, bs, sz, rs⟩ := f
      simp only at e0 e1 e2 e3 e4 e5 hBy hRl hg h64 h8 hfit
      cases hgo : (nk == -1)
      · rw [hgo] at HE1
        have hne : (nk != -1) = true := by simpa using hgo
        go_upto_region 6 with fail
        have x0 := (heap_alloc_old wr (.cells #[.int .i64 s, .int .i64 al, .string g, .slice ab bs.length cb, .int .i64 sz, .slice ar rs.length cr] 43) hl0).trans q0
        have x1 := (heap_alloc_old wr (.cells #[.int .i64 s, .int .i64 al, .string g, .slice ab bs.length cb, .int .i64 sz, .slice ar rs.length cr] 43) hl1).trans q1
        have x2 := (heap_alloc_old wr (.cells #[.int .i64 s, .int .i64 al, .string g, .slice ab bs.length cb, .int .i64 sz, .slice ar rs.length cr] 43) hl2).trans q2
        have x3 := (heap_alloc_old wr (.cells #[.int .i64 s, .int .i64 al, .string g, .slice ab bs.length cb, .int .i64 sz, .slice ar rs.length cr] 43) hl3).trans q3
        have x7 := heap_alloc_new wr (.cells #[.int .i64 s, .int .i64 al, .string g, .slice ab bs.length cb, .int .i64 sz, .slice ar rs.length cr] 43)
        have hPX := hPR.later ((Below.refl wr.heap.size wr).alloc (Nat.le_refl _) (.cells #[.int .i64 s, .int .i64 al, .string g, .slice ab bs.length cb, .int .i64 sz, .slice ar rs.length cr] 43))
        have HBX : Hid (Below w.heap.size w (wr.alloc (.cells #[.int .i64 s, .int .i64 al, .string g, .slice ab bs.length cb, .int .i64 sz, .slice ar rs.length cr] 43))) := HB.out.alloc (by omega) _
        have hByX := hBy.later ((Below.refl wr.heap.size wr).alloc (Nat.le_refl _) (.cells #[.int .i64 s, .int .i64 al, .string g, .slice ab bs.length cb, .int .i64 sz, .slice ar rs.length cr] 43))
        have hRlX := hRl.later ((Below.refl wr.heap.size wr).alloc (Nat.le_refl _) (.cells #[.int .i64 s, .int .i64 al, .string g, .slice ab bs.length cb, .int .i64 sz, .slice ar rs.length cr] 43))
        clear q0 q1 q2 q3 hPR HB hBy hRl e0 e1 e2 e3 e4 e5 hck
        have hsmall : (∀ b ∈ bs, 0 ≤ b ∧ b < 256) ∧ g.size ≤ maxLen ∧ ∀ r ∈ rs.map (M.movedRel ns), r.name.size ≤ maxLen ∧ (Lit.int .i64 r.kind).wf = true := by
          refine ⟨hByX.2, hg, fun r hr => ?_⟩
          obtain ⟨q, hq, rfl⟩ := List.mem_map.1 hr
          have := hRlX.2 q hq
          unfold M.movedRel
          cases M.bare q.name && !(q.frag == -1) <;> exact this
        generalize wr.alloc (.cells #[.int .i64 s, .int .i64 al, .string g, .slice ab bs.length cb, .int .i64 sz, .slice ar rs.length cr] 43) = X at *
        have HX : Hid (MPart w X fs ds C (some ⟨b, off, none⟩) aD cF cD es [] vF (.slice none 0 0)) := ⟨x0, x1, x2, x3, hPX, HBX.out⟩
        have hwX : w.heap.size ≤ X.heap.size := HBX.out.size
        obtain ⟨aV, nV, cV, rfl⟩ := own_form hPX.rowF
        have hnV : nV = es.length := by rcases hPX.rowF.2 with ⟨h1, h2⟩ | ⟨_, _, _, h1, _⟩ <;> cases h1 <;> first | rfl | exact h2.symm
        subst hnV
        have HS : Hid (∀ W, Below X.heap.size X W → (W.cell? ⟨wr.heap.size, 0, none⟩ = some (.int .i64 s) ∧ W.cell? ⟨wr.heap.size, 1, none⟩ = some (.int .i64 al) ∧ W.cell? ⟨wr.heap.size, 2, none⟩ = some (.string g) ∧ W.cell? ⟨wr.heap.size, 3, none⟩ = some (.slice ab bs.length cb) ∧ W.cell? ⟨wr.heap.size, 4, none⟩ = some (.int .i64 sz) ∧ W.cell? ⟨wr.heap.size, 5, none⟩ = some (.slice ar rs.length cr) ∧ W.rangeAt (w.heap.size + 1) 0 C.toList)) := fun W hW => by
          have y7 := (hW.block _ (Array.getElem?_eq_some_iff.1 x7).1).trans x7
          have y1 := (hW.block _ (Array.getElem?_eq_some_iff.1 x1).1).trans x1
          exact ⟨cellB y7 0, cellB y7 1, cellB y7 2, cellB y7 3, cellB y7 4, cellB y7 5, fun j v hv => by rw [Nat.zero_add, cellB y1 j]; simpa using hv⟩
        have K : Hid (∀ W, Below X.heap.size X W → Calls Try.prog 79 #[.agg #[.int .i64 s, .int .i64 al, .string g, .slice ab bs.length cb, .int .i64 sz, .slice ar rs.length cr], .agg C] W fun e w' =>
            Below W.heap.size W w' ∧ ∃ bv rv, e = .returned (.agg #[.int .i64 s, .int .i64 al, .string g, bv, .int .i64 sz, rv]) ∧ w'.ownsRow W.heap.size 5 1 bv bs.length (bs.map (Value.int .u8)) ∧
              w'.ownsRow W.heap.size 121 5 rv rs.length ((rs.map (M.movedRel ns)).flatMap encRel)) := fun W hW => movedFrag_any ⟨s, al, g, bs, sz, rs⟩ ns C ab ar cb cr W hC (hByX.later hW) (hRlX.later hW) h64 h8 hfit
        have hc30 : X.cell? ⟨w.heap.size + 3, 0, none⟩ = some (.slice aV es.length cV) := cellB x3 0
        have hX3 : w.heap.size + 3 < X.heap.size := (Array.getElem?_eq_some_iff.1 x3).1
        obtain ⟨n60, h60'⟩ : ∃ n, n = 60 := ⟨60, rfl⟩
        have hld : (loadCellsFrom ⟨w.heap.size + 1, 0, none⟩ 0 n60 #[]).run Try.prog X.drew = .ok C X.drew := load_row60 X.drew _ C n60 (by rw [h60']; exact hC.size) 78 x1
        have hag : ∀ w, (isAgg 78).run Try.prog w = .ok true w := Try.isAgg78
        have hso : ∀ w, (sizeOf 78).run Try.prog w = .ok n60 w := by rw [h60']; exact Try.sizeOf78
        generalize (78 : TypeId) = t48 at hag hso ⊢
        clear h60'
        have y7 := x7
        have k0 : X.cell? ⟨wr.heap.size, 0, none⟩ = some (.int .i64 s) := cellB x7 0
        have k1 : X.cell? ⟨wr.heap.size, 1, none⟩ = some (.int .i64 al) := cellB x7 1
        have k2 : X.cell? ⟨wr.heap.size, 2, none⟩ = some (.string g) := cellB x7 2
        have k3 : X.cell? ⟨wr.heap.size, 3, none⟩ = some (.slice ab bs.length cb) := cellB x7 3
        have k4 : X.cell? ⟨wr.heap.size, 4, none⟩ = some (.int .i64 sz) := cellB x7 4
        have k5 : X.cell? ⟨wr.heap.size, 5, none⟩ = some (.slice ar rs.length cr) := cellB x7 5
        have HF : Hid (∀ w1 o w5, Below X.heap.size X w1 → (w1.alloc o).grownBy w5 (Value.slice aV es.length cV).ownBlock → w5.heap[w.heap.size + 3]? = some (.cells #[.slice aV es.length cV, .slice none 0 0] 25 (0, 0))) := fun w1 o w5 h1 hg => by
          have z3 := (h1.block _ hX3).trans x3
          exact block_kept ((hPX.later h1).rowF.alloc o) hg ((heap_alloc_old w1 o (Array.getElem?_eq_some_iff.1 z3).1).trans z3) (by decide)
        go_region_law (first | (go_simp; go_at_call 79; refine (K.out X.drew (Below.refl _ _).drew).mono ?_; rintro e w1 ⟨hb1, bv, rv, rfl, hby1, hrl1⟩; obtain ⟨av, nv, cv, rfl⟩ := own_form hby1; obtain ⟨at', nt, ct, rfl⟩ := own_form hrl1; have hX1 := (Below.refl X.heap.size X).drew.trans hb1; have hc31 : w1.cell? ⟨w.heap.size + 3, 0, none⟩ = some (.slice aV es.length cV) := (cellB ((hX1.block _ hX3).trans x3) 0); have hown1 := fun o => (hPX.later hX1).rowF.alloc o; have hnews1 : ∀ j u, (#[.int .i64 s, .int .i64 al, .string g, .slice av nv cv, .int .i64 sz, .slice at' nt ct] : Array Value).toList[j]? = some u → (w1.alloc (.cells #[.int .i64 s, .int .i64 al, .string g, .slice av nv cv, .int .i64 sz, .slice at' nt ct] 43)).cell? ((⟨w1.heap.size, 0, none⟩ : Addr).add j) = some u := World.news_of_block (heap_alloc_new w1 _); have hw13 := (Array.getElem?_eq_some_iff.1 ((hX1.block _ hX3).trans x3)).1) | (refine step_append_lies _ (by rfl) _ _ _ (by rfl) w.heap.size 43 i0 (.agg #[.int .i64 0, .int .i64 0, .string ⟨#[]⟩, .slice none 0 0, .int .i64 0, .slice none 0 0]) 6 88 Try.underlying22 hi0 hz0 hz1 hz2 rfl (by decide) (.slice aV es.length cV) es.length (es.flatMap entCells) (by rfl) (hown1 _) ⟨w1.heap.size, 0, none⟩ 1 1 #[.int .i64 s, .int .i64 al, .string g, .slice av nv cv, .int .i64 sz, .slice at' nt ct].toList (by rfl) (by rfl) hnews1 (fun u hu => by simp at hu; rcases hu with rfl | rfl | rfl | rfl | rfl | rfl <;> rfl) (by omega) (by unfold maxLen; omega) (by omega) (by simp; omega) (w1.heap.size + 1) (by simp) ?_; intro gN capN w5 hown5 hgrow5 hat5 hlt5; have hn5 := HF.out _ _ _ hX1 hgrow5; have hfz5 := frozenB hn5 0; have hcb5 : w5.cell? ⟨w.heap.size + 3, 0, none⟩ = some (.slice aV es.length cV) := cellB hn5 0))
        all_goals
          have HM5 : Hid (MPart w (w5.setCell ⟨w.heap.size + 3, 0, none⟩ (.slice (some ⟨gN, 0, none⟩) (es.length + 1) capN)) fs ds C (some ⟨b, off, none⟩) aD cF cD (es ++ [⟨M.movedFrg ns ⟨s, al, g, bs, sz, rs⟩, .slice av nv cv, .slice at' nt ct⟩]) [] (.slice (some ⟨gN, 0, none⟩) (es.length + 1) capN) (.slice none 0 0)) :=
            mpart_addF (mpart_later HX.out (hX1.alloc hX1.size _)) hgrow5 hown5 (row_base (hby1.alloc _) hwX) (row_base (by simpa [M.movedFrg] using hrl1.alloc _) hwX) hsmall
          clear hcb5 hfz5 hn5 hown5 hgrow5 hat5 hlt5 hby1 hrl1 hown1 hnews1 hc31
          go_wp2_with fail
          go_roundw
          case rel => exact ⟨k + 1, _, _, by omega, by go_num, by rw [Hid, HE1]; simp, by simp; omega, HM5.out⟩
          case measure => simp [intOf]; omega
      · rw [hgo, cond_true, List.append_nil] at HE1
        have hne : (nk != -1) = false := by simpa using hgo
        have HE2 : Hid (es.map (·.f) = _) := HE1.symm
        have HM5 : Hid (MPart w (wr.alloc (.cells #[.int .i64 s, .int .i64 al, .string g, .slice ab bs.length cb, .int .i64 sz, .slice ar rs.length cr] 43)) fs ds C (some ⟨b, off, none⟩) aD cF cD es [] vF (.slice none 0 0)) := mpart_later ⟨q0, q1, q2, q3, hPR, HB.out⟩ ((Below.refl _ _).alloc (Nat.le_refl _) _)
        clear HE1
        go_wp2_with fail
        go_roundw
        case rel => exact ⟨k + 1, es, _, by omega, by go_num, HE2, by omega, HM5.out⟩
        case measure => simp [intOf]; omega
    · have hkl : k = fs.length := by omega
      have HE2 : Hid (es.map (·.f) = M.movedFrags ns fs) := by
        rw [Hid, HE.out, hkl, List.take_of_length_le (by rw [List.length_zip]; omega)]; rfl
      have HM0 : Hid (MPart w wr fs ds C aF aD cF cD es [] vF (.slice none 0 0)) := ⟨q0, q1, q2, q3, hPR, HB.out⟩
      have c1 : wr.cell? ⟨w.heap.size, 1, none⟩ = some (.slice aD ds.length cD) := cellB q0 1
      have hdl : ds.length ≤ maxLen := by obtain ⟨_, _, _, h⟩ := hd.1.form; exact h
      unfold maxLen at hdl
      obtain ⟨aV, nV, cV, rfl⟩ := own_form hPR.rowF
      clear HE q0 q1 q2 q3 hPR HB hl0 hl1 hl2 hl3 hek hf
      subst hkl
      go_wp2_with fail
      go_loopw [34] (fun s34 wr => ∃ (j : Nat) (gs : List M.Dfn) (vD : Value), j ≤ ds.length ∧ s34 = .int .i64 j ∧ Hid (gs = M.movedDefs ns (ds.take j)) ∧ gs.length ≤ j ∧ MPart w wr fs ds C aF aD cF cD es gs (.slice aV nV cV) vD) (fun s34 _ => ds.length - (intOf s34).toNat)
      case atStart => exact ⟨0, [], _, Nat.zero_le _, rfl, rfl, Nat.le_refl _, HM0.out⟩
      case round =>
        obtain ⟨j, gs, vD, hj, rfl, HG, hgj, hM⟩ := hrel
        have HM : Hid (MPart w wr fs ds C aF aD cF cD es gs (.slice aV nV cV) vD) := hM
        obtain ⟨q0, q1, q2, q3, hPR, hB⟩ := hM
        have HB : Hid (Below w.heap.size w wr) := hB
        clear hB HM0
        have hl0 : w.heap.size < wr.heap.size := (Array.getElem?_eq_some_iff.1 q0).1
        have hl1 : w.heap.size + 1 < wr.heap.size := (Array.getElem?_eq_some_iff.1 q1).1
        have hl3 : w.heap.size + 3 < wr.heap.size := (Array.getElem?_eq_some_iff.1 q3).1
        obtain ⟨aW, nW, cW, rfl⟩ := own_form hPR.rowD
        have hnW : nW = gs.length := by rcases hPR.rowD.2 with ⟨h1, h2⟩ | ⟨_, _, _, h1, _⟩ <;> cases h1 <;> first | rfl | exact h2.symm
        subst hnW
        by_cases hlt : j < ds.length
        · obtain ⟨b, off, rfl, e0, e1, e2, e3, e4, e5, hnm⟩ := (hd.later HB.out).cells j hlt
          have hbr : b < wr.heap.size := World.block_lt_of_cell? _ _ e0
          have HG1 := defs_take ns ds j hlt
          rw [← HG.out] at HG1
          have hmem := getD_mem ds dfn0 j hlt
          have hdf := hm.defs _ hmem
          have h60 := hm.nd
          have hjl : (j : Int) < (ds.length : Int) := by omega
          clear HG hd hm
          generalize ds.getD j dfn0 = d at *
          obtain ⟨nm, kd, fr, ps, sz, al⟩ := d
          simp only at e0 e1 e2 e3 e4 e5 hnm hdf
          cases hk3 : (kd == 3)
          · have hmd : M.movedDfn ns ⟨nm, kd, fr, ps, sz, al⟩ = ⟨nm, kd, M.num ns fr, ps, sz, al⟩ := by unfold M.movedDfn; dsimp only; rw [hk3]; rfl
            rw [hmd] at HG1
            obtain ⟨hf0, hf60⟩ := hdf hk3
            obtain ⟨i, rfl⟩ : ∃ i : Nat, fr = (i : Int) := ⟨fr.toNat, by omega⟩
            have hnum : M.num ns i = ns.getD i 0 := by unfold M.num; simp
            rw [hnum] at HG1
            have hci : wr.cell? ⟨w.heap.size + 1, i, none⟩ = some (.int .i64 (ns.getD i 0)) := (cellB q1 i).trans (hC.at' i (by omega))
            have hkn : (kd != 3) = true := by simpa using hk3
            clear hnum hmd hdf
            generalize ns.getD i 0 = nw at *
            cases hg1 : (nw == -1)
            · have HG2 : Hid (gs ++ [⟨nm, kd, nw, ps, sz, al⟩] = M.movedDefs ns (ds.take (j + 1))) := by rw [Hid, HG1]; simp only [hg1]; rfl
              have hgn : (nw != -1) = true := by simpa using hg1
              clear HG1
              go_upto_region 14 with fail
              have HX : Hid (MPart w (wr.alloc (.cells #[.string nm, .int .i64 kd, .int .i64 nw, .int .i64 ps, .int .i64 sz, .int .i64 al] 69)) fs ds C aF _ cF cD es gs (.slice aV nV cV) (.slice aW gs.length cW)) := mpart_later HM.out ((Below.refl _ _).alloc (Nat.le_refl _) _)
              have x7 := heap_alloc_new wr (.cells #[.string nm, .int .i64 kd, .int .i64 nw, .int .i64 ps, .int .i64 sz, .int .i64 al] 69)
              have hXs : wr.heap.size < (wr.alloc (.cells #[.string nm, .int .i64 kd, .int .i64 nw, .int .i64 ps, .int .i64 sz, .int .i64 al] 69)).heap.size := by simp
              clear q0 q1 q2 q3 hPR HB HM e0 e1 e2 e3 e4 e5
              generalize wr.alloc (.cells #[.string nm, .int .i64 kd, .int .i64 nw, .int .i64 ps, .int .i64 sz, .int .i64 al] 69) = X at *
              have x3 := HX.out.q3
              have hownX := HX.out.pr.rowD
              have k0 : X.cell? ⟨wr.heap.size, 0, none⟩ = some (.string nm) := cellB x7 0
              have k1 : X.cell? ⟨wr.heap.size, 1, none⟩ = some (.int .i64 kd) := cellB x7 1
              have k2 : X.cell? ⟨wr.heap.size, 2, none⟩ = some (.int .i64 nw) := cellB x7 2
              have k3 : X.cell? ⟨wr.heap.size, 3, none⟩ = some (.int .i64 ps) := cellB x7 3
              have k4 : X.cell? ⟨wr.heap.size, 4, none⟩ = some (.int .i64 sz) := cellB x7 4
              have k5 : X.cell? ⟨wr.heap.size, 5, none⟩ = some (.int .i64 al) := cellB x7 5
              have c31 : X.cell? ⟨w.heap.size + 3, 1, none⟩ = some (.slice aW gs.length cW) := cellB x3 1
              have hX3 : w.heap.size + 3 < X.heap.size := by omega
              have hnews : ∀ j u, (#[.string nm, .int .i64 kd, .int .i64 nw, .int .i64 ps, .int .i64 sz, .int .i64 al] : Array Value).toList[j]? = some u → (X.alloc (.cells #[.string nm, .int .i64 kd, .int .i64 nw, .int .i64 ps, .int .i64 sz, .int .i64 al] 69)).cell? ((⟨X.heap.size, 0, none⟩ : Addr).add j) = some u := World.news_of_block (heap_alloc_new X _)
              have HF : Hid (∀ w5, (X.alloc (.cells #[.string nm, .int .i64 kd, .int .i64 nw, .int .i64 ps, .int .i64 sz, .int .i64 al] 69)).grownBy w5 (Value.slice aW gs.length cW).ownBlock → w5.heap[w.heap.size + 3]? = some (.cells #[.slice aV nV cV, .slice aW gs.length cW] 25 (0, 0))) := fun w5 hg => block_kept (hownX.alloc _) hg ((heap_alloc_old X _ hX3).trans x3) (by decide)
              clear x3 x7
              go_wp2_with (at_builtin; refine wpList_append_lies _ rfl _ _ 23 rfl w.heap.size 69 i1 (.agg #[.string ⟨#[]⟩, .int .i64 0, .int .i64 0, .int .i64 0, .int .i64 0, .int .i64 0]) 6 56 Try.underlying23 hi1 hy0 hy1 hy2 rfl (by decide) (.slice aW gs.length cW) gs.length (gs.flatMap encDfn) rfl (hownX.alloc _) ⟨X.heap.size, 0, none⟩ 1 1 #[.string nm, .int .i64 kd, .int .i64 nw, .int .i64 ps, .int .i64 sz, .int .i64 al].toList rfl rfl hnews (fun u hu => by simp at hu; rcases hu with rfl | rfl | rfl | rfl | rfl | rfl <;> rfl) (by omega) (by unfold maxLen; omega) (by omega) (by simp; omega) (X.heap.size + 1) (by simp) ?_; intro gN capN w5 hown5 hgrow5 hat5 hlt5; have hn5 := HF.out _ hgrow5; have hfz5 := frozenB hn5 1; have hcb5 : w5.cell? ⟨w.heap.size + 3, 1, none⟩ = some (.slice aW gs.length cW) := cellB hn5 1)
              go_roundw
              case rel => exact ⟨j + 1, gs ++ [⟨nm, kd, nw, ps, sz, al⟩], _, by omega, by go_num, HG2, by simp; omega, mpart_addD (d := ⟨nm, kd, nw, ps, sz, al⟩) (mpart_later HX.out ((Below.refl _ _).alloc (Nat.le_refl _) _)) hgrow5 hown5 hnm⟩
              case measure => simp [intOf]; omega
            · have HG2 : Hid (gs = M.movedDefs ns (ds.take (j + 1))) := by rw [Hid, HG1]; simp only [hg1]; simp
              have hgn : (nw != -1) = false := by simpa using hg1
              clear HG1
              have HX : Hid (MPart w (wr.alloc (.cells #[.string nm, .int .i64 kd, .int .i64 nw, .int .i64 ps, .int .i64 sz, .int .i64 al] 69)) fs ds C aF _ cF cD es gs (.slice aV nV cV) (.slice aW gs.length cW)) := mpart_later HM.out ((Below.refl _ _).alloc (Nat.le_refl _) _)
              go_wp2_with fail
              go_roundw
              case rel => exact ⟨j + 1, gs, _, by omega, by go_num, HG2, by omega, HX.out⟩
              case measure => simp [intOf]; omega
          · have hmd : M.movedDfn ns ⟨nm, kd, fr, ps, sz, al⟩ = ⟨nm, kd, fr, ps, sz, al⟩ := by unfold M.movedDfn; dsimp only; rw [hk3]; rfl
            rw [hmd] at HG1
            have hkn : (kd != 3) = false := by simpa using hk3
            clear hmd hdf
            cases hg1 : (fr == -1)
            · have HG2 : Hid (gs ++ [⟨nm, kd, fr, ps, sz, al⟩] = M.movedDefs ns (ds.take (j + 1))) := by rw [Hid, HG1]; simp only [hg1]; rfl
              have hgn : (fr != -1) = true := by simpa using hg1
              clear HG1
              go_upto_region 14 with fail
              have HX : Hid (MPart w (wr.alloc (.cells #[.string nm, .int .i64 kd, .int .i64 fr, .int .i64 ps, .int .i64 sz, .int .i64 al] 69)) fs ds C aF _ cF cD es gs (.slice aV nV cV) (.slice aW gs.length cW)) := mpart_later HM.out ((Below.refl _ _).alloc (Nat.le_refl _) _)
              have x7 := heap_alloc_new wr (.cells #[.string nm, .int .i64 kd, .int .i64 fr, .int .i64 ps, .int .i64 sz, .int .i64 al] 69)
              have hXs : wr.heap.size < (wr.alloc (.cells #[.string nm, .int .i64 kd, .int .i64 fr, .int .i64 ps, .int .i64 sz, .int .i64 al] 69)).heap.size := by simp
              clear q0 q1 q2 q3 hPR HB HM e0 e1 e2 e3 e4 e5
              generalize wr.alloc (.cells #[.string nm, .int .i64 kd, .int .i64 fr, .int .i64 ps, .int .i64 sz, .int .i64 al] 69) = X at *
              have x3 := HX.out.q3
              have hownX := HX.out.pr.rowD
              have k0 : X.cell? ⟨wr.heap.size, 0, none⟩ = some (.string nm) := cellB x7 0
              have k1 : X.cell? ⟨wr.heap.size, 1, none⟩ = some (.int .i64 kd) := cellB x7 1
              have k2 : X.cell? ⟨wr.heap.size, 2, none⟩ = some (.int .i64 fr) := cellB x7 2
              have k3 : X.cell? ⟨wr.heap.size, 3, none⟩ = some (.int .i64 ps) := cellB x7 3
              have k4 : X.cell? ⟨wr.heap.size, 4, none⟩ = some (.int .i64 sz) := cellB x7 4
              have k5 : X.cell? ⟨wr.heap.size, 5, none⟩ = some (.int .i64 al) := cellB x7 5
              have c31 : X.cell? ⟨w.heap.size + 3, 1, none⟩ = some (.slice aW gs.length cW) := cellB x3 1
              have hX3 : w.heap.size + 3 < X.heap.size := by omega
              have hnews : ∀ j u, (#[.string nm, .int .i64 kd, .int .i64 fr, .int .i64 ps, .int .i64 sz, .int .i64 al] : Array Value).toList[j]? = some u → (X.alloc (.cells #[.string nm, .int .i64 kd, .int .i64 fr, .int .i64 ps, .int .i64 sz, .int .i64 al] 69)).cell? ((⟨X.heap.size, 0, none⟩ : Addr).add j) = some u := World.news_of_block (heap_alloc_new X _)
              have HF : Hid (∀ w5, (X.alloc (.cells #[.string nm, .int .i64 kd, .int .i64 fr, .int .i64 ps, .int .i64 sz, .int .i64 al] 69)).grownBy w5 (Value.slice aW gs.length cW).ownBlock → w5.heap[w.heap.size + 3]? = some (.cells #[.slice aV nV cV, .slice aW gs.length cW] 25 (0, 0))) := fun w5 hg => block_kept (hownX.alloc _) hg ((heap_alloc_old X _ hX3).trans x3) (by decide)
              clear x3 x7
              go_wp2_with (at_builtin; refine wpList_append_lies _ rfl _ _ 23 rfl w.heap.size 69 i1 (.agg #[.string ⟨#[]⟩, .int .i64 0, .int .i64 0, .int .i64 0, .int .i64 0, .int .i64 0]) 6 56 Try.underlying23 hi1 hy0 hy1 hy2 rfl (by decide) (.slice aW gs.length cW) gs.length (gs.flatMap encDfn) rfl (hownX.alloc _) ⟨X.heap.size, 0, none⟩ 1 1 #[.string nm, .int .i64 kd, .int .i64 fr, .int .i64 ps, .int .i64 sz, .int .i64 al].toList rfl rfl hnews (fun u hu => by simp at hu; rcases hu with rfl | rfl | rfl | rfl | rfl | rfl <;> rfl) (by omega) (by unfold maxLen; omega) (by omega) (by simp; omega) (X.heap.size + 1) (by simp) ?_; intro gN capN w5 hown5 hgrow5 hat5 hlt5; have hn5 := HF.out _ hgrow5; have hfz5 := frozenB hn5 1; have hcb5 : w5.cell? ⟨w.heap.size + 3, 1, none⟩ = some (.slice aW gs.length cW) := cellB hn5 1)
              go_roundw
              case rel => exact ⟨j + 1, gs ++ [⟨nm, kd, fr, ps, sz, al⟩], _, by omega, by go_num, HG2, by simp; omega, mpart_addD (d := ⟨nm, kd, fr, ps, sz, al⟩) (mpart_later HX.out ((Below.refl _ _).alloc (Nat.le_refl _) _)) hgrow5 hown5 hnm⟩
              case measure => simp [intOf]; omega
            · have HG2 : Hid (gs = M.movedDefs ns (ds.take (j + 1))) := by rw [Hid, HG1]; simp only [hg1]; simp
              have hgn : (fr != -1) = false := by simpa using hg1
              clear HG1
              have HX : Hid (MPart w (wr.alloc (.cells #[.string nm, .int .i64 kd, .int .i64 fr, .int .i64 ps, .int .i64 sz, .int .i64 al] 69)) fs ds C aF _ cF cD es gs (.slice aV nV cV) (.slice aW gs.length cW)) := mpart_later HM.out ((Below.refl _ _).alloc (Nat.le_refl _) _)
              go_wp2_with fail
              go_roundw
              case rel => exact ⟨j + 1, gs, _, by omega, by go_num, HG2, by omega, HX.out⟩
              case measure => simp [intOf]; omega
        · have hjl : j = ds.length := by omega
          have HG2 : Hid (gs = M.movedDefs ns ds) := by rw [Hid, HG.out, hjl, List.take_length]
          have c30 : wr.cell? ⟨w.heap.size + 3, 0, none⟩ = some (.slice aV nV cV) := cellB q3 0
          have c31 : wr.cell? ⟨w.heap.size + 3, 1, none⟩ = some (.slice aW gs.length cW) := cellB q3 1
          have c20 : wr.cell? ⟨w.heap.size + 2, 0, none⟩ = some (.slice none 0 0) := cellB q2 0
          have c21 : wr.cell? ⟨w.heap.size + 2, 1, none⟩ = some (.slice none 0 0) := cellB q2 1
          have f20 := frozenB q2 0
          have f21 := frozenB q2 1
          have z0 : (wr.setCell ⟨w.heap.size + 1 + 1, 0, none⟩ (.slice aV nV cV)).heap[w.heap.size + 1 + 1]? = some (.cells #[.slice aV nV cV, .slice none 0 0] 25 (0, 0)) := setB' q2 _
          have z1 : ((wr.setCell ⟨w.heap.size + 1 + 1, 0, none⟩ (.slice aV nV cV)).setCell ⟨w.heap.size + 1 + 1, 1, none⟩ (.slice aW gs.length cW)).heap[w.heap.size + 1 + 1]? = some (.cells #[.slice aV nV cV, .slice aW gs.length cW] 25 (0, 0)) := setB' z0 _
          have HZ : Hid (((wr.setCell ⟨w.heap.size + 1 + 1, 0, none⟩ (.slice aV nV cV)).setCell ⟨w.heap.size + 1 + 1, 1, none⟩ (.slice aW gs.length cW)).heap[w.heap.size + 1 + 1]? = some (.cells #[.slice aV nV cV, .slice aW gs.length cW] 25 (0, 0))) := z1
          have HP : Hid (PR ((wr.setCell ⟨w.heap.size + 1 + 1, 0, none⟩ (.slice aV nV cV)).setCell ⟨w.heap.size + 1 + 1, 1, none⟩ (.slice aW gs.length cW)) w.heap.size es gs (.slice aV nV cV) (.slice aW gs.length cW)) := (hPR.set q2).set z0
          have HBz : Hid (Below w.heap.size w ((wr.setCell ⟨w.heap.size + 1 + 1, 0, none⟩ (.slice aV nV cV)).setCell ⟨w.heap.size + 1 + 1, 1, none⟩ (.slice aW gs.length cW))) := (HB.out.setCell (by show w.heap.size ≤ w.heap.size + 1 + 1; omega) _).setCell (by show w.heap.size ≤ w.heap.size + 1 + 1; omega) _
          clear z0 z1 HG hd hm
          subst hjl
          go_wp2
          refine bodyPost_ret (v := .agg #[.slice aV nV cV, .slice aW gs.length cW]) (results_cell_row Try.results42 _ _ (w.heap.size + 1 + 1) 25 _ (0, 0) _ rfl HZ.out Try.underlying25 rfl (by kernel_rfl)) rfl ?_
          exact ⟨HBz.out, es, _, _, rfl, by rw [← HG2.out]; exact HP.out, HE2.out⟩

end Go.Proofs.Ytebhbhbhcoijpaa
