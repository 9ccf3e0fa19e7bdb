/-
  The contract of the reference's Dropped.
-/
import Derived.Test.YthbdfnphnppagaaDoorRefDropMem
namespace Go.Proofs.YthbdfnphnppagaaDoor
open Go Go.RowKit
set_option linter.unusedVariables false

theorem run_store_fn {P : Program} {w : World} {a : Addr} {m : Mode} (f : Fn) (x y : Array Value) : (store a (.func f x y) m).run P w = stored P w a (.func f x y) m := run_store P w a _ m rfl
theorem field_frags {w : World} (x y : Option Addr) (n c m d : Nat) : (Instr.field 25 (.agg #[.slice x n c, .slice y m d]) 0).run Tryd.prog w = .ok (.slice x n c) w := by kernel_rfl
attribute [local go_sem] run_store_fn field_frags

def dsF (l : List ByteArray) (fs : List M.Frg) (k : Nat) : List M.Frg := (M.stays l (fs.take k)).map (M.movedFrg (M.count l 0 fs))

theorem dsF_take (l : List ByteArray) (fs : List M.Frg) (k : Nat) (h : k < fs.length) : dsF l fs (k + 1) = dsF l fs k ++ bif M.gone l (fs.getD k frg0) then [] else [M.movedFrg (M.count l 0 fs) (fs.getD k frg0)] := by
  unfold dsF M.stays
  rw [List.take_succ_eq_append_getElem h, List.filter_append, List.map_append, List.getD_eq_getElem?_getD, List.getElem?_eq_getElem h]
  simp only [Option.getD_some, List.filter_cons, List.filter_nil]
  cases M.gone l fs[k] <;> rfl

theorem num_toN (l : List ByteArray) (fs : List M.Frg) (n : Nat) (h : n < fs.length) : M.num (M.count l 0 fs) n = toN l fs n ∧ (M.gone l (fs.getD n frg0) = true → toN l fs n = -1) ∧ (M.gone l (fs.getD n frg0) = false → 0 ≤ toN l fs n) := by
  have hget : fs[((n : Nat) : Int).toNat]? = some (fs.getD n frg0) := by simpa using getElem?_getD fs frg0 n h
  have e : M.num (M.count l 0 fs) n = toN l fs n := by unfold toN; rw [if_neg (by omega)]
  have g := M.num_get l fs 0 n (by omega) _ hget
  rw [e] at g
  refine ⟨e, fun hg => ?_, fun hg => ?_⟩
  · rw [g, hg]; rfl
  · rw [g, hg, cond_false]; omega

theorem row_cells6 {w : World} {B : Nat} {v : Value} {es : List Ent} (h : w.ownsRow B 29 6 v es.length (es.flatMap entCells)) (k : Nat) (hk : k < es.length) :
    ∃ g cap, v = .slice (some ⟨g, 0, none⟩) es.length cap ∧ ∀ i, i < 6 → w.cell? ⟨g, 0 + k * 6 + i, none⟩ = some ((entCells (es.getD k ent0)).getD i undef) := by
  have hs := row_slice (k := 6) ent0 entCells (fun _ => rfl) es h
  rcases h.2 with ⟨h1, h2⟩ | ⟨g, cap, cur, h1, _⟩
  · omega
  · rw [h1] at hs
    obtain ⟨b, off, he, hc⟩ := hs.at k hk
    cases he
    exact ⟨g, cap, h1, hc⟩

theorem row_cells5 {w : World} {B n : Nat} {v : Value} {rs : List M.Rel} (h : w.ownsRow B 76 5 v n (rs.flatMap encRel)) (hn : n = rs.length) (k : Nat) (hk : k < rs.length) :
    ∃ g cap, v = .slice (some ⟨g, 0, none⟩) n cap ∧ (∀ i, i < 5 → w.cell? ⟨g, 0 + k * 5 + i, none⟩ = some ((encRel (rs.getD k rel0)).getD i undef)) ∧ (∀ i, w.frozen? ⟨g, i, none⟩ = false) ∧ ∃ cs, w.heap[g]? = some (.cells cs 76 (0, 0)) := by
  subst hn
  have hs := row_slice (k := 5) rel0 encRel (fun _ => rfl) rs h
  rcases h.2 with ⟨h1, h2⟩ | ⟨g, cap, cur, h1, _, h3, _⟩
  · omega
  · rw [h1] at hs
    obtain ⟨b, off, he, hc⟩ := hs.at k hk
    cases he
    exact ⟨g, cap, h1, hc, fun i => frozenB h3 i, cur, h3⟩

set_option maxHeartbeats 8000000 in
set_option maxRecDepth 100000 in
theorem dropped_any (p : M.Prt) (l : List ByteArray) (a1 a2 a3 : Option Addr) (c1 c2 c3 : Nat) (w : World) (hf : FragsAt w (.slice a1 p.frags.length c1) p.frags) (hd : DefsAt w (.slice a2 p.defs.length c2) p.defs) (hl : StrsAt w (.slice a3 l.length c3) l) (hok : M.Ok p) :
    Calls Tryd.prog 23 #[.agg #[.slice a1 p.frags.length c1, .slice a2 p.defs.length c2], .slice a3 l.length c3] w fun e w' =>
      Below w.heap.size w w' ∧ ∃ es vF vD, e = .returned (.agg #[vF, vD]) ∧ PR w' w.heap.size es (M.drop p l).defs vF vD ∧ es.map (·.f) = (M.drop p l).frags ∧ es.Pairwise Apart := by
  obtain ⟨i2, hi2, hx0, hx1, hx2⟩ := info_parts (P := Tryd.prog) (e := 29) (z := .agg #[.int .i64 0, .int .i64 0, .string ⟨#[]⟩, .slice none 0 0, .int .i64 0, .slice none 0 0]) (size := 6) (bytes := 88) (by kernel_rfl)
  obtain ⟨i3, hi3, hu0, hu1, hu2⟩ := info_parts (P := Tryd.prog) (e := 53) (z := .agg #[.string ⟨#[]⟩, .int .i64 0, .int .i64 0, .int .i64 0, .int .i64 0, .int .i64 0]) (size := 6) (bytes := 56) (by kernel_rfl)
  have h60 := hok.nf
  have hd60 := hok.nd
  go_enter Tryd.func23, Tryd.ntmps23
  go_upto_region 4 with fail
  have HY : Hid (∃ Y, Y = (((((w.alloc (.cells #[.slice a1 p.frags.length c1, .slice a2 p.defs.length c2] 25)).alloc (.cells #[.slice a3 l.length c3] 38)).alloc (.cells #[.slice none 0 0, .slice none 0 0] 25)).alloc (.cells #[.func (.func 55) #[] #[.pointer (some ⟨w.heap.size, 0, none⟩), .pointer (some ⟨w.heap.size + 1, 0, none⟩)]] 69)).alloc (.cells #[.slice none 0 0, .slice none 0 0] 25)) ∧
      DVars w Y #[.slice a1 p.frags.length c1, .slice a2 p.defs.length c2] (.slice a3 l.length c3) (.slice none 0 0) (.slice none 0 0)) := by
    refine ⟨_, rfl, ?_⟩
    have e4 := heap_alloc_new ((((w.alloc (.cells #[.slice a1 p.frags.length c1, .slice a2 p.defs.length c2] 25)).alloc (.cells #[.slice a3 l.length c3] 38)).alloc (.cells #[.slice none 0 0, .slice none 0 0] 25)).alloc (.cells #[.func (.func 55) #[] #[.pointer (some ⟨w.heap.size, 0, none⟩), .pointer (some ⟨w.heap.size + 1, 0, none⟩)]] 69)) (.cells #[.slice none 0 0, .slice none 0 0] 25)
    have e3 := heap_alloc_new (((w.alloc (.cells #[.slice a1 p.frags.length c1, .slice a2 p.defs.length c2] 25)).alloc (.cells #[.slice a3 l.length c3] 38)).alloc (.cells #[.slice none 0 0, .slice none 0 0] 25)) (.cells #[.func (.func 55) #[] #[.pointer (some ⟨w.heap.size, 0, none⟩), .pointer (some ⟨w.heap.size + 1, 0, none⟩)]] 69)
    have e2 := heap_alloc_new ((w.alloc (.cells #[.slice a1 p.frags.length c1, .slice a2 p.defs.length c2] 25)).alloc (.cells #[.slice a3 l.length c3] 38)) (.cells #[.slice none 0 0, .slice none 0 0] 25)
    simp only [World.size_alloc] at e4 e3 e2
    refine ⟨(heap_alloc_old _ _ (by simp; try omega)).trans ((heap_alloc_old _ _ (by simp; try omega)).trans ((heap_alloc_old _ _ (by simp; try omega)).trans (heap_alloc2_old _ _ _))), (heap_alloc_old _ _ (by simp; try omega)).trans ((heap_alloc_old _ _ (by simp; try omega)).trans ((heap_alloc_old _ _ (by simp; try omega)).trans (heap_alloc2_new _ _ _))), (heap_alloc_old _ _ (by simp; try omega)).trans ((heap_alloc_old _ _ (by simp; try omega)).trans e2), (heap_alloc_old _ _ (by simp; try omega)).trans e3, e4, ?_⟩
    exact (((((Below.refl _ _).alloc (Nat.le_refl _) _).alloc (by simp) _).alloc (by simp; omega) _).alloc (by simp; omega) _).alloc (by simp; omega) _
  obtain ⟨Y, hY, hV⟩ := HY.out
  rw [← hY]
  clear hY HY
  have HV : Hid (DVars w Y #[.slice a1 p.frags.length c1, .slice a2 p.defs.length c2] (.slice a3 l.length c3) (.slice none 0 0) (.slice none 0 0)) := hV
  have cp0 : Y.cell? ⟨w.heap.size, 0, none⟩ = some (.slice a1 p.frags.length c1) := cellB hV.b0 0
  have cp1 : Y.cell? ⟨w.heap.size, 1, none⟩ = some (.slice a2 p.defs.length c2) := cellB hV.b0 1
  have KO : Hid (Calls Tryd.prog 24 #[.agg #[.slice a1 p.frags.length c1, .slice a2 p.defs.length c2]] Y _) := ownPart_any p a1 a2 c1 c2 Y (hf.later hV.below) (hd.later hV.below) (room_ok hok)
  have KG : Hid (∀ (j : Nat) W, j < p.frags.length → Below w.heap.size w W → W.cell? ⟨w.heap.size, 0, none⟩ = some (.slice a1 p.frags.length c1) → W.cell? ⟨w.heap.size + 1, 0, none⟩ = some (.slice a3 l.length c3) → Calls Tryd.prog 55 #[.int .i64 j, .pointer (some ⟨w.heap.size, 0, none⟩), .pointer (some ⟨w.heap.size + 1, 0, none⟩)] W fun e w' => e = .returned (.bool (M.gone l (p.frags.getD j frg0))) ∧ Below W.heap.size W w') := fun j W hj hW h1 h2 =>
    gone_any p.frags l j a1 a3 c1 c3 _ _ W (hf.later hW) (hl.later hW) h1 h2 hj
  have KT : Hid (∀ (i : Int) W, -1 ≤ i → i < p.frags.length → DVars w W #[.slice a1 p.frags.length c1, .slice a2 p.defs.length c2] (.slice a3 l.length c3) (.slice none 0 0) (.slice none 0 0) ∨ (∃ vF vD, DVars w W #[.slice a1 p.frags.length c1, .slice a2 p.defs.length c2] (.slice a3 l.length c3) vF vD) → Calls Tryd.prog 56 #[.int .i64 i, .pointer (some ⟨w.heap.size + 3, 0, none⟩)] W fun e w' => e = .returned (.int .i64 (toN l p.frags i)) ∧ Below W.heap.size W w') := fun i W h1 h2 h3 => by
    obtain ⟨vF, vD, h3⟩ : ∃ vF vD, DVars w W #[.slice a1 p.frags.length c1, .slice a2 p.defs.length c2] (.slice a3 l.length c3) vF vD := by
      rcases h3 with h3 | h3
      · exact ⟨_, _, h3⟩
      · exact h3
    exact to_any p.frags l i a1 a3 c1 c3 _ _ _ W (hf.later h3.below) (hl.later h3.below) (cellB h3.b0 0) (cellB h3.b1 0) (cellB h3.b3 0) h1 h2 h60
  have HFit : Hid (∀ f ∈ p.frags, ∀ r ∈ f.rels, M.bare r.name = true → -1 ≤ r.frag ∧ r.frag < p.frags.length) := fun f hf' r hr hb => hok.fits f hf' r hr hb
  have HSt : Hid (∀ d ∈ p.defs, (d.kind == 3) = false → 0 ≤ d.frag ∧ d.frag < p.frags.length) := fun d hd' hk => by
    obtain ⟨f, h1, h2, _⟩ := hok.stands d hd' hk
    have := (List.getElem?_eq_some_iff.1 h2).1
    omega
  have HLen : Hid (∀ f ∈ p.frags, f.rels.length ≤ 8) := fun f hf' => (len_ok f (hok.shape f hf')).2
  have HDef : Hid (DefsAt w (.slice a2 p.defs.length c2) p.defs) := hd
  have HCom : Hid (∀ d ∈ p.defs, (d.kind == 3) = true → d.frag = 0) := fun d hd' hk => by
    have h := hok.plain d hd'
    have hk' : d.kind = 3 := by simpa using hk
    unfold M.plainDfn at h
    split at h
    · cases h
    split at h
    · omega
    · cases hf0 : (d.frag == 0)
      · rw [hf0] at h; simp at h
      · simpa using hf0
  clear hf hd hl hok hV
  go_upto_region 5 with (go_at_call 24; refine KO.out.mono ?_; rintro e W0 ⟨hb0, es0, vS, vD0, rfl, hP0, hes0, hap0⟩; obtain ⟨xS, yS, rfl⟩ := own_len hP0.rowF; obtain ⟨xT, yT, rfl⟩ := own_len hP0.rowD)
  have HF0 : Hid (es0.map (·.f) = p.frags) := hes0
  have hn0 : es0.length = p.frags.length := by rw [← hes0, List.length_map]
  have HD0 : Hid (DFr w W0 #[.slice a1 p.frags.length c1, .slice a2 p.defs.length c2] (.slice a3 l.length c3) W0.heap.size (.slice xS es0.length yS) es0 [] es0 (.slice none 0 0)) := by
    have hYs := HV.out.below.size
    have hP := hP0.base hYs
    exact ⟨HV.out.later hb0, PR.nil _ _, World.ownsRow_nil _ _ _ _, hP.rowF, fun g hg => (hP.rowF.lt g hg).2, fun e he => ⟨hP.bytes e he, hP.rels e he, hP.small e he⟩, hap0, Nat.le_trans hYs hb0.size, Nat.le_refl _⟩
  clear hb0 hP0 hes0 hap0 cp0 cp1 KO HV
  generalize W0.heap.size = N at *
  have HN0 : Hid (es0.length = p.frags.length) := hn0
  have hle60 : es0.length ≤ 60 := by omega
  clear hn0
  go_loopw [20] (fun s20 wr => ∃ (k : Nat) (es : List Ent) (vF : Value), k ≤ es0.length ∧ s20 = .int .i64 k ∧ Hid (es.map (·.f) = dsF l p.frags k) ∧ es.length ≤ k ∧ Hid (DFr w wr #[.slice a1 p.frags.length c1, .slice a2 p.defs.length c2] (.slice a3 l.length c3) N (.slice xS es0.length yS) es0 es (es0.drop k) vF)) (fun s20 _ => es0.length - (intOf s20).toNat)
  case atStart => exact ⟨0, [], _, Nat.zero_le _, rfl, rfl, Nat.le_refl _, HD0.out⟩
  case round =>
    obtain ⟨k, es, vF, hk, rfl, HE, hek, HD⟩ := hrel
    clear HD0
    by_cases hlt : k < es0.length
    · have hkp : k < p.frags.length := by rw [← HN0.out]; exact hlt
      have hdrop := drop_getD es0 ent0 k hlt
      have hEf : (es0.getD k ent0).f = p.frags.getD k frg0 := by
        rw [← HF0.out, List.getD_eq_getElem?_getD, List.getD_eq_getElem?_getD, List.getElem?_map, List.getElem?_eq_getElem hlt]; rfl
      have HD1 : Hid (DFr w wr #[.slice a1 p.frags.length c1, .slice a2 p.defs.length c2] (.slice a3 l.length c3) N (.slice xS es0.length yS) es0 es (es0.getD k ent0 :: es0.drop (k + 1)) vF) := by rw [Hid, ← hdrop]; exact HD.out
      obtain ⟨g0, y0, hgv, hcl⟩ := row_cells6 HD.out.src k hlt
      cases hgv
      have HE1 := dsF_take l p.frags k hkp
      rw [← HE.out, ← hEf] at HE1
      have HFt : Hid (∀ r ∈ (es0.getD k ent0).f.rels, M.bare r.name = true → -1 ≤ r.frag ∧ r.frag < p.frags.length) := by rw [Hid, hEf]; exact HFit.out _ (getD_mem _ _ _ hkp)
      have h8 : (es0.getD k ent0).f.rels.length ≤ 8 := by rw [hEf]; exact HLen.out _ (getD_mem _ _ _ hkp)
      have KGk : Hid (∀ W, Below w.heap.size w W → W.cell? ⟨w.heap.size, 0, none⟩ = some (.slice a1 p.frags.length c1) → W.cell? ⟨w.heap.size + 1, 0, none⟩ = some (.slice a3 l.length c3) → Calls Tryd.prog 55 #[.int .i64 k, .pointer (some ⟨w.heap.size, 0, none⟩), .pointer (some ⟨w.heap.size + 1, 0, none⟩)] W fun e w' => e = .returned (.bool (M.gone l (es0.getD k ent0).f)) ∧ Below W.heap.size W w') := fun W h1 h2 h3 => by
        rw [hEf]; exact KG.out k W hkp h1 h2 h3
      clear hdrop hEf HE HD
      have e0 := hcl 0 (by decide)
      have e1 := hcl 1 (by decide)
      have e2 := hcl 2 (by decide)
      have e3 := hcl 3 (by decide)
      have e4 := hcl 4 (by decide)
      have e5 := hcl 5 (by decide)
      clear hcl
      generalize hrest : es0.drop (k + 1) = rest at *
      have HRest : Hid (es0.drop (k + 1) = rest) := hrest
      clear hrest
      generalize es0.getD k ent0 = en at *
      obtain ⟨⟨s, al, g, bs, sz, rs⟩, bv, rv⟩ := en
      simp only [entCells, List.getD_cons_zero, List.getD_cons_succ, Nat.zero_add, Nat.add_zero] at e0 e1 e2 e3 e4 e5
      obtain ⟨hby, hrl, _⟩ := HD1.out.come _ (List.mem_cons_self ..)
      obtain ⟨xb, yb, rfl⟩ : ∃ x y, bv = .slice x bs.length y := own_len hby
      obtain ⟨xr, yr, rfl⟩ : ∃ x y, rv = .slice x rs.length y := own_len hrl
      clear hby hrl
      have hkl : (k : Int) < (es0.length : Int) := by omega
      have hg0 : g0 < wr.heap.size := World.block_lt_of_cell? _ _ e0
      have hw0 : w.heap.size ≤ wr.heap.size := HD1.out.vars.below.size
      go_upto_region 7 with fail
      have hbX : Below wr.heap.size wr (wr.alloc (.cells #[.int .i64 s, .int .i64 al, .string g, .slice xb bs.length yb, .int .i64 sz, .slice xr rs.length yr] 29)) := (Below.refl _ _).alloc (Nat.le_refl _) _
      have fb := heap_alloc_new wr (.cells #[.int .i64 s, .int .i64 al, .string g, .slice xb bs.length yb, .int .i64 sz, .slice xr rs.length yr] 29)
      have HX : Hid _ := HD1.out.later hbX
      clear HD1 e0 e1 e2 e3 e4 e5 hbX
      generalize wr.alloc (.cells #[.int .i64 s, .int .i64 al, .string g, .slice xb bs.length yb, .int .i64 sz, .slice xr rs.length yr] 29) = X at *
      generalize wr.heap.size = nf at *
      have v0 : X.cell? ⟨w.heap.size, 0, none⟩ = some (.slice a1 p.frags.length c1) := cellB HX.out.vars.b0 0
      have v1 : X.cell? ⟨w.heap.size + 1, 0, none⟩ = some (.slice a3 l.length c3) := cellB HX.out.vars.b1 0
      have v3 : X.cell? ⟨w.heap.size + 1 + 1 + 1, 0, none⟩ = some (.func (.func 55) #[] #[.pointer (some ⟨w.heap.size, 0, none⟩), .pointer (some ⟨w.heap.size + 1, 0, none⟩)]) := cellB HX.out.vars.b3 0
      have KG1 : Hid (Calls Tryd.prog 55 #[.int .i64 k, .pointer (some ⟨w.heap.size, 0, none⟩), .pointer (some ⟨w.heap.size + 1, 0, none⟩)] X fun e w' => e = .returned (.bool (M.gone l ⟨s, al, g, bs, sz, rs⟩)) ∧ Below X.heap.size X w') := KGk.out X HX.out.vars.below v0 v1
      clear KGk
      generalize M.gone l ⟨s, al, g, bs, sz, rs⟩ = gn at *
      cases gn
      · have HE2 : Hid (dsF l p.frags (k + 1) = es.map (·.f) ++ [M.movedFrg (M.count l 0 p.frags) ⟨s, al, g, bs, sz, rs⟩]) := HE1
        clear HE1
        go_upto_region 9 with (go_at_call 55; refine KG1.out.mono ?_; rintro e W1 ⟨rfl, hb1⟩; have fb1 := (hb1.block _ (Array.getElem?_eq_some_iff.1 fb).1).trans fb; have fc5 : W1.cell? ⟨nf, 5, none⟩ = some (.slice xr rs.length yr) := cellB fb1 5)
        have HX1 : Hid (DFr w W1 #[.slice a1 p.frags.length c1, .slice a2 p.defs.length c2] (.slice a3 l.length c3) N (.slice (some ⟨g0, 0, none⟩) es0.length yS) es0 es (⟨⟨s, al, g, bs, sz, rs⟩, .slice xb bs.length yb, .slice xr rs.length yr⟩ :: rest) vF) := HX.out.later hb1
        clear HX KG1 v0 v1 v3 fb hb1 fc5
        go_loopw [31] (fun s31 wi => ∃ (j : Nat), j ≤ rs.length ∧ s31 = .int .i64 j ∧ Hid (DFr w wi #[.slice a1 p.frags.length c1, .slice a2 p.defs.length c2] (.slice a3 l.length c3) N (.slice (some ⟨g0, 0, none⟩) es0.length yS) es0 es (curE l p.frags ⟨⟨s, al, g, bs, sz, rs⟩, .slice xb bs.length yb, .slice xr rs.length yr⟩ j :: rest) vF) ∧ wi.heap[nf]? = some (.cells #[.int .i64 s, .int .i64 al, .string g, .slice xb bs.length yb, .int .i64 sz, .slice xr rs.length yr] 29 (0, 0))) (fun s31 _ => rs.length - (intOf s31).toNat)
        case atStart => exact ⟨0, Nat.zero_le _, rfl, by rw [cur_zero]; exact HX1.out, fb1⟩
        case round =>
          obtain ⟨j, hj, rfl, HI, fbi⟩ := hrel
          clear HX1 fb1
          have hnfi : nf < wr.heap.size := (Array.getElem?_eq_some_iff.1 fbi).1
          by_cases hjt : j < rs.length
          · have hrow := (HI.out.come _ (List.mem_cons_self ..)).2.1
            have hcl := cur_len l p.frags ⟨⟨s, al, g, bs, sz, rs⟩, .slice xb bs.length yb, .slice xr rs.length yr⟩ j hj
            obtain ⟨g1, y1, hgv, hcc, hfz, cs1, hcs1⟩ := row_cells5 hrow rfl j (by rw [hcl]; exact hjt)
            have hcg := cur_get l p.frags ⟨⟨s, al, g, bs, sz, rs⟩, .slice xb bs.length yb, .slice xr rs.length yr⟩ j hjt
            rw [hcg] at hcc
            rw [hcl] at hgv
            cases hgv
            have hFr := HFt.out _ (getD_mem rs rel0 j hjt)
            have HN : Hid (M.bare (rs.getD j rel0).name = false → curE l p.frags ⟨⟨s, al, g, bs, sz, rs⟩, .slice xb bs.length yb, .slice (some ⟨g1, 0, none⟩) rs.length yr⟩ (j + 1) = curE l p.frags ⟨⟨s, al, g, bs, sz, rs⟩, .slice xb bs.length yb, .slice (some ⟨g1, 0, none⟩) rs.length yr⟩ j) := cur_named l p.frags ⟨⟨s, al, g, bs, sz, rs⟩, .slice xb bs.length yb, .slice (some ⟨g1, 0, none⟩) rs.length yr⟩ j hjt
            have HBr : Hid (M.bare (rs.getD j rel0).name = true → setFrag (curE l p.frags ⟨⟨s, al, g, bs, sz, rs⟩, .slice xb bs.length yb, .slice (some ⟨g1, 0, none⟩) rs.length yr⟩ j) j (toN l p.frags (rs.getD j rel0).frag) = curE l p.frags ⟨⟨s, al, g, bs, sz, rs⟩, .slice xb bs.length yb, .slice (some ⟨g1, 0, none⟩) rs.length yr⟩ (j + 1)) := cur_bare l p.frags ⟨⟨s, al, g, bs, sz, rs⟩, .slice xb bs.length yb, .slice (some ⟨g1, 0, none⟩) rs.length yr⟩ j hjt
            have r0 := hcc 0 (by decide)
            have r1 := hcc 1 (by decide)
            have r2 := hcc 2 (by decide)
            have r3 := hcc 3 (by decide)
            have r4 := hcc 4 (by decide)
            clear hcc hcg hcl hrow
            generalize rs.getD j rel0 = rr at *
            obtain ⟨pos, kd, nm, fr, ad⟩ := rr
            simp only [encRel, List.getD_cons_zero, List.getD_cons_succ, Nat.zero_add, Nat.add_zero] at r0 r1 r2 r3 r4 hFr HN HBr
            have hjl : (j : Int) < (rs.length : Int) := by omega
            have hj0 : (0 : Int) ≤ (j : Int) := by omega
            have hg1 : g1 < wr.heap.size := World.block_lt_of_cell? _ _ r0
            have hw1 : w.heap.size ≤ wr.heap.size := HI.out.vars.below.size
            cases hb : M.bare nm
            · have hb' : nm.toList.isEmpty = false := hb
              have HN2 : Hid _ := HN.out hb
              have HEx : Hid (∀ o, DFr w (wr.alloc o) #[.slice a1 p.frags.length c1, .slice a2 p.defs.length c2] (.slice a3 l.length c3) N (.slice (some ⟨g0, 0, none⟩) es0.length yS) es0 es (curE l p.frags ⟨⟨s, al, g, bs, sz, rs⟩, .slice xb bs.length yb, .slice (some ⟨g1, 0, none⟩) rs.length yr⟩ j :: rest) vF ∧ (wr.alloc o).heap[nf]? = some (.cells #[.int .i64 s, .int .i64 al, .string g, .slice xb bs.length yb, .int .i64 sz, .slice (some ⟨g1, 0, none⟩) rs.length yr] 29 (0, 0))) := fun o => ⟨HI.out.later ((Below.refl _ _).alloc (Nat.le_refl _) o), (heap_alloc_old _ _ hnfi).trans fbi⟩
              clear hb HBr HN fbi hcs1 hfz
              go_wp2
              go_roundw
              case rel => exact ⟨j + 1, by omega, by go_num, by rw [HN2.out]; exact (HEx.out _).1, (HEx.out _).2⟩
              case measure => simp [intOf]; omega
            · have hb' : nm.toList.isEmpty = true := hb
              have HB2 : Hid _ := HBr.out hb
              have hfr := hFr hb
              clear hb HBr HN hFr
              go_upto_region 12 with fail
              have hbA : Below wr.heap.size wr (wr.alloc (.cells #[.int .i64 pos, .int .i64 kd, .string nm, .int .i64 fr, .int .i64 ad] 76)) := (Below.refl _ _).alloc (Nat.le_refl _) _
              have nb := heap_alloc_new wr (.cells #[.int .i64 pos, .int .i64 kd, .string nm, .int .i64 fr, .int .i64 ad] 76)
              have HX2 : Hid _ := HI.out.later hbA
              have fb2 := (hbA.block _ hnfi).trans fbi
              have gc2 := (hbA.block _ hg1).trans hcs1
              have hrl2 := cell_later hbA r3
              clear r0 r1 r2 r3 r4 fbi HI hcs1 hfz
              have hgn : g1 ≠ wr.heap.size := by omega
              generalize wr.alloc (.cells #[.int .i64 pos, .int .i64 kd, .string nm, .int .i64 fr, .int .i64 ad] 76) = X2 at *
              generalize wr.heap.size = nr at *
              have hgf : g1 ≠ nf := fun e => by
                rw [e, fb2] at gc2
                cases gc2
              have hlg : g1 < X2.heap.size := (Array.getElem?_eq_some_iff.1 gc2).1
              have hlf : nf < X2.heap.size := (Array.getElem?_eq_some_iff.1 fb2).1
              have hlr : nr < X2.heap.size := (Array.getElem?_eq_some_iff.1 nb).1
              have HS : Hid (∀ W, Below X2.heap.size X2 W → (W.cell? ⟨nf, 5, none⟩ = some (.slice (some ⟨g1, 0, none⟩) rs.length yr) ∧ W.cell? ⟨nr, 3, none⟩ = some (.int .i64 fr))) := fun W hW => ⟨cellB ((hW.block _ hlf).trans fb2) 5, cellB ((hW.block _ hlr).trans nb) 3⟩
              have HS3 : Hid (∀ W v, Below X2.heap.size X2 W → ((W.setCell ⟨g1, j * 5 + 3, none⟩ v).cell? ⟨nf, 5, none⟩ = some (.slice (some ⟨g1, 0, none⟩) rs.length yr) ∧ (W.setCell ⟨g1, j * 5 + 3, none⟩ v).cell? ⟨nr, 3, none⟩ = some (.int .i64 fr))) := fun W v hW => ⟨cellB ((Below.heap_setCell _ _ _ _ (fun e => hgf e.symm)).trans ((hW.block _ hlf).trans fb2)) 5, cellB ((Below.heap_setCell _ _ _ _ (fun e => hgn e.symm)).trans ((hW.block _ hlr).trans nb)) 3⟩
              have KT2 : Hid (∀ W, Below X2.heap.size X2 W → Calls Tryd.prog 56 #[.int .i64 fr, .pointer (some ⟨w.heap.size + 1 + 1 + 1, 0, none⟩)] W fun e w' => e = .returned (.int .i64 (toN l p.frags fr)) ∧ Below W.heap.size W w') := fun W hW => KT.out fr W hfr.1 hfr.2 (.inr ⟨_, _, (HX2.out.vars.later hW)⟩)
              have HG2 : Hid (∀ W, Below X2.heap.size X2 W → W.cell? ⟨g1, j * 5 + 3, none⟩ = some (.int .i64 fr) ∧ W.frozen? ⟨g1, j * 5 + 3, none⟩ = false ∧ g1 < W.heap.size) := fun W hW => ⟨cell_later hW hrl2, frozenB ((hW.block _ hlg).trans gc2) _, Nat.lt_of_lt_of_le hlg hW.size⟩
              have hA0 : Below X2.heap.size X2 X2.drew := (Below.refl _ _).drew
              generalize toN l p.frags fr = nw at *
              clear hrl2 gc2 nb
              go_region_held3 (fun w' => w'.cell? ⟨nf, 5, none⟩ = some (.slice (some ⟨g1, 0, none⟩) rs.length yr) ∧ w'.cell? ⟨nr, 3, none⟩ = some (.int .i64 fr)) (first | exact HS.out _ hA0 | exact HS.out _ hX3 | exact HS3.out _ _ hX3) ((go_at_call 56; refine (KT2.out _ hA0).mono ?_; rintro e w2 ⟨rfl, hb2⟩; have hX3 : Below X2.heap.size X2 w2 := hA0.trans (hb2.mono hA0.size); obtain ⟨hs1, hs2, hs3⟩ := HG2.out _ hX3))
              have HI3 := (HX2.out.later hX3).setRel (g := g1) (cap := yr) (k := j) (by rw [cur_len l p.frags ⟨⟨s, al, g, bs, sz, rs⟩, .slice xb bs.length yb, .slice (some ⟨g1, 0, none⟩) rs.length yr⟩ j hj]; rfl) (by rw [cur_len l p.frags ⟨⟨s, al, g, bs, sz, rs⟩, .slice xb bs.length yb, .slice (some ⟨g1, 0, none⟩) rs.length yr⟩ j hj]; exact hjt) nw
              have fb3 := (Below.heap_setCell w2 ⟨g1, j * 5 + 3, none⟩ (.int .i64 nw) nf (fun e => hgf e.symm)).trans ((hX3.block _ hlf).trans fb2)
              have HI4 : Hid _ := HI3
              have Hfb3 : Hid _ := fb3
              clear HI3 fb3
              go_wp2
              go_roundw
              case rel => exact ⟨j + 1, by omega, by go_num, by rw [← HB2.out]; exact HI4.out, Hfb3.out⟩
              case measure => simp [intOf]; omega
          · have hjl : j = rs.length := by omega
            subst hjl
            obtain ⟨aV, cV, rfl⟩ := own_len HI.out.hi
            have o0 : wr.cell? ⟨w.heap.size + 1 + 1 + 1 + 1, 0, none⟩ = some (.slice aV es.length cV) := cellB HI.out.vars.b4 0
            have hl4 : w.heap.size + 1 + 1 + 1 + 1 < wr.heap.size := (Array.getElem?_eq_some_iff.1 HI.out.vars.b4).1
            have q0 : wr.cell? ⟨nf, 0, none⟩ = some (.int .i64 s) := cellB fbi 0
            have q1 : wr.cell? ⟨nf, 1, none⟩ = some (.int .i64 al) := cellB fbi 1
            have q2 : wr.cell? ⟨nf, 2, none⟩ = some (.string g) := cellB fbi 2
            have q3 : wr.cell? ⟨nf, 3, none⟩ = some (.slice xb bs.length yb) := cellB fbi 3
            have q4 : wr.cell? ⟨nf, 4, none⟩ = some (.int .i64 sz) := cellB fbi 4
            have q5 : wr.cell? ⟨nf, 5, none⟩ = some (.slice xr rs.length yr) := cellB fbi 5
            have hAl : Below wr.heap.size wr (wr.alloc (.cells #[.int .i64 s, .int .i64 al, .string g, .slice xb bs.length yb, .int .i64 sz, .slice xr rs.length yr] 29)) := (Below.refl _ _).alloc (Nat.le_refl _) _
            have hA := HI.out.later hAl
            have hrowA := hA.hi
            have htop : N ≤ (wr.alloc (.cells #[.int .i64 s, .int .i64 al, .string g, .slice xb bs.length yb, .int .i64 sz, .slice xr rs.length yr] 29)).heap.size := hA.top
            have hnews : ∀ j u, (#[.int .i64 s, .int .i64 al, .string g, .slice xb bs.length yb, .int .i64 sz, .slice xr rs.length yr] : Array Value).toList[j]? = some u → (wr.alloc (.cells #[.int .i64 s, .int .i64 al, .string g, .slice xb bs.length yb, .int .i64 sz, .slice xr rs.length yr] 29)).cell? ((⟨wr.heap.size, 0, none⟩ : Addr).add j) = some u := World.news_of_block (heap_alloc_new wr _)
            have HEnd : Hid (∀ v' w5, (wr.alloc (.cells #[.int .i64 s, .int .i64 al, .string g, .slice xb bs.length yb, .int .i64 sz, .slice xr rs.length yr] 29)).grownBy w5 (Value.slice aV es.length cV).ownBlock → w5.ownsRow N 29 6 v' (es.length + 1) (es.flatMap entCells ++ (#[.int .i64 s, .int .i64 al, .string g, .slice xb bs.length yb, .int .i64 sz, .slice xr rs.length yr] : Array Value).toList) → DFr w (w5.setCell ⟨w.heap.size + 4, 0, none⟩ v') #[.slice a1 p.frags.length c1, .slice a2 p.defs.length c2] (.slice a3 l.length c3) N (.slice (some ⟨g0, 0, none⟩) es0.length yS) es0 (es ++ [curE l p.frags ⟨⟨s, al, g, bs, sz, rs⟩, .slice xb bs.length yb, .slice xr rs.length yr⟩ rs.length]) rest v') := fun v' w5 hg5 ho5 => hA.add hg5 ho5
            have HQ4 : Hid (∀ w5, (wr.alloc (.cells #[.int .i64 s, .int .i64 al, .string g, .slice xb bs.length yb, .int .i64 sz, .slice xr rs.length yr] 29)).grownBy w5 (Value.slice aV es.length cV).ownBlock → w5.heap[w.heap.size + 1 + 1 + 1 + 1]? = some (.cells #[.slice aV es.length cV, .slice none 0 0] 25 (0, 0))) := fun w5 hg5 => block_kept hA.hi hg5 hA.vars.b4 (by decide)
            have HF2 : Hid ((curE l p.frags ⟨⟨s, al, g, bs, sz, rs⟩, .slice xb bs.length yb, .slice xr rs.length yr⟩ rs.length).f = M.movedFrg (M.count l 0 p.frags) ⟨s, al, g, bs, sz, rs⟩) := cur_all l p.frags ⟨⟨s, al, g, bs, sz, rs⟩, .slice xb bs.length yb, .slice xr rs.length yr⟩ (fun r hr hb => (HFt.out r hr hb).1)
            clear HI hA hAl fbi
            go_wp2_with (at_builtin; refine wpList_append_own _ rfl _ _ 22 rfl N 29 i2 (.agg #[.int .i64 0, .int .i64 0, .string ⟨#[]⟩, .slice none 0 0, .int .i64 0, .slice none 0 0]) 6 88 Tryd.underlying22 hi2 hx0 hx1 hx2 rfl (by decide) _ _ _ rfl hrowA ⟨wr.heap.size, 0, none⟩ 1 1 (#[.int .i64 s, .int .i64 al, .string g, .slice xb bs.length yb, .int .i64 sz, .slice xr rs.length yr] : Array Value).toList rfl rfl hnews (fun u hu => by simp at hu; rcases hu with rfl | rfl | rfl | rfl | rfl | rfl <;> rfl) (by unfold maxLen; omega) (by omega) htop ?_; intro v5 w5 ho5 hg5 hn5; obtain ⟨a5, c5, rfl⟩ := own_len ho5; have hq5 := HQ4.out w5 hg5; have m0 : w5.cell? ⟨w.heap.size + 1 + 1 + 1 + 1, 0, none⟩ = some (.slice aV es.length cV) := cellB hq5 0; have mz0 : w5.frozen? ⟨w.heap.size + 1 + 1 + 1 + 1, 0, none⟩ = false := frozenB hq5 0)
            have HFin := HEnd.out _ _ hg5 ho5
            go_roundw
            case rel => exact ⟨k + 1, es ++ [curE l p.frags ⟨⟨s, al, g, bs, sz, rs⟩, .slice xb bs.length yb, .slice xr rs.length yr⟩ rs.length], _, by omega, by go_num, by rw [Hid, List.map_append, HE2.out]; show _ ++ [(curE l p.frags ⟨⟨s, al, g, bs, sz, rs⟩, .slice xb bs.length yb, .slice xr rs.length yr⟩ rs.length).f] = _; rw [HF2.out], by rw [List.length_append]; simp; omega, by rw [HRest.out]; exact HFin⟩
            case measure => simp [intOf]; omega
      · have HE2 : Hid (es.map (·.f) = dsF l p.frags (k + 1)) := by rw [Hid, HE1]; simp
        clear HE1
        go_wp2_with (go_at_call 55; refine KG1.out.mono ?_; rintro e W1 ⟨rfl, hb1⟩)
        go_roundw
        case rel => exact ⟨k + 1, es, vF, by omega, by go_num, HE2, by omega, by rw [HRest.out]; exact (HX.out.later hb1).skip⟩
        case measure => simp [intOf]; omega
    · have hkl : k = es0.length := by omega
      have HFr : Hid (es.map (·.f) = (M.drop p l).frags) := by
        rw [Hid, HE.out, hkl, HN0.out, M.drop_frags]
        unfold dsF
        rw [List.take_length]
      have HAp : Hid (es.Pairwise Apart) := (List.pairwise_append.1 HD.out.ap).1
      have HV0 : Hid (DVars w wr #[.slice a1 p.frags.length c1, .slice a2 p.defs.length c2] (.slice a3 l.length c3) vF (.slice none 0 0)) := HD.out.vars
      have HP0 : Hid (PR wr w.heap.size es [] vF (.slice none 0 0)) := HD.out.pr
      have cd1 : wr.cell? ⟨w.heap.size, 1, none⟩ = some (.slice a2 p.defs.length c2) := cellB HD.out.vars.b0 1
      have hl0 : w.heap.size < wr.heap.size := (Array.getElem?_eq_some_iff.1 HD.out.vars.b0).1
      clear HE HD hkl hek
      subst_vars
      obtain ⟨aF, cF, rfl⟩ := own_len HP0.out.rowF
      go_upto_region 17 with fail
      go_loopw [59] (fun s59 wr => ∃ (k : Nat) (gs : List M.Dfn) (vD : Value), k ≤ p.defs.length ∧ s59 = .int .i64 k ∧ Hid (gs = M.movedDefs (M.count l 0 p.frags) (p.defs.take k)) ∧ gs.length ≤ k ∧ DVars w wr #[.slice a1 p.frags.length c1, .slice a2 p.defs.length c2] (.slice a3 l.length c3) (.slice aF es.length cF) vD ∧ PR wr w.heap.size es gs (.slice aF es.length cF) vD) (fun s59 _ => p.defs.length - (intOf s59).toNat)
      case atStart => exact ⟨0, [], _, Nat.zero_le _, rfl, rfl, Nat.le_refl _, HV0.out, HP0.out⟩
      case round =>
        obtain ⟨k, gs, vD, hk, rfl, HM, hgk, hV, hP⟩ := hrel
        clear HV0 HP0 cd1
        obtain ⟨aV, cV, rfl⟩ := own_len hP.rowD
        have HVr : Hid (DVars w wr #[.slice a1 p.frags.length c1, .slice a2 p.defs.length c2] (.slice a3 l.length c3) (.slice aF es.length cF) (.slice aV gs.length cV)) := hV
        have HPr : Hid (PR wr w.heap.size es gs (.slice aF es.length cF) (.slice aV gs.length cV)) := hP
        clear hV hP
        by_cases hlt : k < p.defs.length
        · obtain ⟨b, off, rfl, e0, e1, e2, e3, e4, e5, hnm⟩ := (HDef.out.later HVr.out.below).cells k hlt
          have hbr : b < wr.heap.size := World.block_lt_of_cell? _ _ e0
          have hkl : (k : Int) < (p.defs.length : Int) := by omega
          have HM1 := defs_take (M.count l 0 p.frags) p.defs k hlt
          rw [← HM.out] at HM1
          have hst := HSt.out _ (getD_mem p.defs dfn0 k hlt)
          have hcm := HCom.out _ (getD_mem p.defs dfn0 k hlt)
          clear HM
          generalize p.defs.getD k dfn0 = d at *
          obtain ⟨nm, kd, fg, pos, sz, al⟩ := d
          simp only at e0 e1 e2 e3 e4 e5 hnm hst hcm
          cases hk3 : (kd == 3)
          · have hkn : (kd != 3) = true := by simpa using hk3
            obtain ⟨hf0, hf1⟩ := hst hk3
            obtain ⟨n, rfl⟩ : ∃ n : Nat, fg = (n : Int) := ⟨fg.toNat, by omega⟩
            have hn : n < p.frags.length := by omega
            obtain ⟨hnum, hgy, hgn⟩ := num_toN l p.frags n hn
            have hmv : M.movedDfn (M.count l 0 p.frags) ⟨nm, kd, n, pos, sz, al⟩ = ⟨nm, kd, toN l p.frags n, pos, sz, al⟩ := by unfold M.movedDfn; rw [hk3, hnum]; rfl
            rw [hmv] at HM1
            simp only at HM1
            clear hmv hst hcm hnum hk3
            go_upto_region 19 with fail
            have hbA : Below wr.heap.size wr (wr.alloc (.cells #[.string nm, .int .i64 kd, .int .i64 n, .int .i64 pos, .int .i64 sz, .int .i64 al] 53)) := (Below.refl _ _).alloc (Nat.le_refl _) _
            have nb := heap_alloc_new wr (.cells #[.string nm, .int .i64 kd, .int .i64 n, .int .i64 pos, .int .i64 sz, .int .i64 al] 53)
            have HVX : Hid _ := HVr.out.later hbA
            have HPX : Hid _ := HPr.out.later hbA
            have hwd : w.heap.size ≤ wr.heap.size := HVr.out.below.size
            have HLt : Hid (∀ g, (Value.slice aV gs.length cV).ownBlock = some g → g < wr.heap.size) := fun g hg => (HPr.out.rowD.lt g hg).2
            clear HVr HPr e0 e1 e2 e3 e4 e5 hbA
            generalize wr.alloc (.cells #[.string nm, .int .i64 kd, .int .i64 n, .int .i64 pos, .int .i64 sz, .int .i64 al] 53) = X at *
            generalize wr.heap.size = nd at *
            have hld : nd < X.heap.size := (Array.getElem?_eq_some_iff.1 nb).1
            have n1 : X.cell? ⟨nd, 1, none⟩ = some (.int .i64 kd) := cellB nb 1
            have n2 : X.cell? ⟨nd, 2, none⟩ = some (.int .i64 n) := cellB nb 2
            have v3 : X.cell? ⟨w.heap.size + 1 + 1 + 1, 0, none⟩ = some (.func (.func 55) #[] #[.pointer (some ⟨w.heap.size, 0, none⟩), .pointer (some ⟨w.heap.size + 1, 0, none⟩)]) := cellB HVX.out.b3 0
            have KG1 : Hid (Calls Tryd.prog 55 #[.int .i64 n, .pointer (some ⟨w.heap.size, 0, none⟩), .pointer (some ⟨w.heap.size + 1, 0, none⟩)] X fun e w' => e = .returned (.bool (M.gone l (p.frags.getD n frg0))) ∧ Below X.heap.size X w') := KG.out n X hn HVX.out.below (cellB HVX.out.b0 0) (cellB HVX.out.b1 0)
            have KT1 : Hid (∀ W, Below X.heap.size X W → Calls Tryd.prog 56 #[.int .i64 n, .pointer (some ⟨w.heap.size + 1 + 1 + 1, 0, none⟩)] W fun e w' => e = .returned (.int .i64 (toN l p.frags n)) ∧ Below W.heap.size W w') := fun W hW => KT.out n W (by omega) hf1 (.inr ⟨_, _, HVX.out.later hW⟩)
            generalize M.gone l (p.frags.getD n frg0) = gn at *
            generalize toN l p.frags n = nw at *
            cases gn
            · have hnw : 0 ≤ nw := hgn rfl
              have hb1' : (nw == -1) = false := by rw [beq_eq_false_iff_ne]; omega
              rw [hb1'] at HM1
              have HM2 : Hid (gs ++ [⟨nm, kd, nw, pos, sz, al⟩] = M.movedDefs (M.count l 0 p.frags) (p.defs.take (k + 1))) := HM1.symm
              clear HM1 hgy hgn hb1' hnw
              go_upto_region 21 with (go_at_call 55; refine KG1.out.mono ?_; rintro e W1 ⟨rfl, hb1⟩)
              have nb1 := (hb1.block _ hld).trans nb
              have z2 : W1.cell? ⟨nd, 2, none⟩ = some (.int .i64 n) := cellB nb1 2
              clear n1 n2 v3
              go_upto_region 22 with (go_at_call 56; refine (KT1.out _ hb1).mono ?_; rintro e W2 ⟨rfl, hb2⟩; have nb2 := (hb2.block _ (Array.getElem?_eq_some_iff.1 nb1).1).trans nb1; have y2 : W2.cell? ⟨nd, 2, none⟩ = some (.int .i64 n) := cellB nb2 2; have yz2 : W2.frozen? ⟨nd, 2, none⟩ = false := frozenB nb2 2)
              have hX2 : Below X.heap.size X W2 := hb1.trans (hb2.mono hb1.size)
              have HVZ : DVars w (W2.setCell ⟨nd, 2, none⟩ (.int .i64 nw)) #[.slice a1 p.frags.length c1, .slice (some ⟨b, off, none⟩) p.defs.length c2] (.slice a3 l.length c3) (.slice aF es.length cF) (.slice aV gs.length cV) := (HVX.out.later hX2).set_def nb2 hwd
              have HPZ : PR (W2.setCell ⟨nd, 2, none⟩ (.int .i64 nw)) w.heap.size es gs (.slice aF es.length cF) (.slice aV gs.length cV) := (HPX.out.later hX2).set_def nb2 HLt.out
              have nbZ : (W2.setCell ⟨nd, 2, none⟩ (.int .i64 nw)).heap[nd]? = some (.cells #[.string nm, .int .i64 kd, .int .i64 nw, .int .i64 pos, .int .i64 sz, .int .i64 al] 53 (0, 0)) := setB' nb2 _
              have HVZ' : Hid _ := HVZ
              have HPZ' : Hid _ := HPZ
              clear HVZ HPZ nb2 nb1 nb hb1 hb2 hX2 HVX HPX KG1 KT1 y2 yz2 z2
              generalize W2.setCell ⟨nd, 2, none⟩ (.int .i64 nw) = Z at *
              have hldZ : nd < Z.heap.size := (Array.getElem?_eq_some_iff.1 nbZ).1
              have z0 : Z.cell? ⟨nd, 0, none⟩ = some (.string nm) := cellB nbZ 0
              have z1 : Z.cell? ⟨nd, 1, none⟩ = some (.int .i64 kd) := cellB nbZ 1
              have z2 : Z.cell? ⟨nd, 2, none⟩ = some (.int .i64 nw) := cellB nbZ 2
              have z3 : Z.cell? ⟨nd, 3, none⟩ = some (.int .i64 pos) := cellB nbZ 3
              have z4 : Z.cell? ⟨nd, 4, none⟩ = some (.int .i64 sz) := cellB nbZ 4
              have z5 : Z.cell? ⟨nd, 5, none⟩ = some (.int .i64 al) := cellB nbZ 5
              clear nbZ
              have hAl : Below Z.heap.size Z (Z.alloc (.cells #[.string nm, .int .i64 kd, .int .i64 nw, .int .i64 pos, .int .i64 sz, .int .i64 al] 53)) := (Below.refl _ _).alloc (Nat.le_refl _) _
              have hrowA := (HPZ'.out.later hAl).rowD
              have hnews : ∀ j u, (#[.string nm, .int .i64 kd, .int .i64 nw, .int .i64 pos, .int .i64 sz, .int .i64 al] : Array Value).toList[j]? = some u → (Z.alloc (.cells #[.string nm, .int .i64 kd, .int .i64 nw, .int .i64 pos, .int .i64 sz, .int .i64 al] 53)).cell? ((⟨Z.heap.size, 0, none⟩ : Addr).add j) = some u := World.news_of_block (heap_alloc_new Z _)
              have HEnd : Hid (∀ v' w5, (Z.alloc (.cells #[.string nm, .int .i64 kd, .int .i64 nw, .int .i64 pos, .int .i64 sz, .int .i64 al] 53)).grownBy w5 (Value.slice aV gs.length cV).ownBlock → w5.ownsRow w.heap.size 53 6 v' (gs.length + 1) (gs.flatMap encDfn ++ (#[.string nm, .int .i64 kd, .int .i64 nw, .int .i64 pos, .int .i64 sz, .int .i64 al] : Array Value).toList) → DVars w (w5.setCell ⟨w.heap.size + 4, 1, none⟩ v') #[.slice a1 p.frags.length c1, .slice (some ⟨b, off, none⟩) p.defs.length c2] (.slice a3 l.length c3) (.slice aF es.length cF) v' ∧ PR (w5.setCell ⟨w.heap.size + 4, 1, none⟩ v') w.heap.size es (gs ++ [⟨nm, kd, nw, pos, sz, al⟩]) (.slice aF es.length cF) v') := fun v' w5 hg5 ho5 => dd_add (d := ⟨nm, kd, nw, pos, sz, al⟩) (HVZ'.out.later hAl) (HPZ'.out.later hAl) hg5 ho5 hnm
              have HQ4 : Hid (∀ w5, (Z.alloc (.cells #[.string nm, .int .i64 kd, .int .i64 nw, .int .i64 pos, .int .i64 sz, .int .i64 al] 53)).grownBy w5 (Value.slice aV gs.length cV).ownBlock → w5.heap[w.heap.size + 1 + 1 + 1 + 1]? = some (.cells #[.slice aF es.length cF, .slice aV gs.length cV] 25 (0, 0))) := fun w5 hg5 => block_kept (HPZ'.out.later hAl).rowD hg5 (HVZ'.out.later hAl).b4 (by decide)
              have o1 : Z.cell? ⟨w.heap.size + 1 + 1 + 1 + 1, 1, none⟩ = some (.slice aV gs.length cV) := cellB HVZ'.out.b4 1
              have hl4 : w.heap.size + 1 + 1 + 1 + 1 < Z.heap.size := (Array.getElem?_eq_some_iff.1 HVZ'.out.b4).1
              have hwW : w.heap.size ≤ Z.heap.size := HVZ'.out.below.size
              clear hAl
              go_wp2_with (at_builtin; refine wpList_append_own _ rfl _ _ 23 rfl w.heap.size 53 i3 (.agg #[.string ⟨#[]⟩, .int .i64 0, .int .i64 0, .int .i64 0, .int .i64 0, .int .i64 0]) 6 56 Tryd.underlying23 hi3 hu0 hu1 hu2 rfl (by decide) _ _ _ rfl hrowA ⟨Z.heap.size, 0, none⟩ 1 1 (#[.string nm, .int .i64 kd, .int .i64 nw, .int .i64 pos, .int .i64 sz, .int .i64 al] : Array Value).toList rfl rfl hnews (fun u hu => by simp at hu; rcases hu with rfl | rfl | rfl | rfl | rfl | rfl <;> rfl) (by unfold maxLen; omega) (by omega) (by simp; omega) ?_; intro v5 w5 ho5 hg5 hn5; obtain ⟨a5, c5, rfl⟩ := own_len ho5; have hq5 := HQ4.out w5 hg5; have m1 : w5.cell? ⟨w.heap.size + 1 + 1 + 1 + 1, 1, none⟩ = some (.slice aV gs.length cV) := cellB hq5 1; have mz1 : w5.frozen? ⟨w.heap.size + 1 + 1 + 1 + 1, 1, none⟩ = false := frozenB hq5 1)
              have HFin := HEnd.out _ _ hg5 ho5
              go_roundw
              case rel => exact ⟨k + 1, gs ++ [⟨nm, kd, nw, pos, sz, al⟩], _, by omega, by go_num, HM2, by rw [List.length_append]; simp; omega, HFin.1, HFin.2⟩
              case measure => simp [intOf]; omega
            · have hnw : nw = -1 := hgy rfl
              rw [hnw] at HM1
              have HM2 : Hid (gs = M.movedDefs (M.count l 0 p.frags) (p.defs.take (k + 1))) := by rw [Hid, HM1]; simp
              clear HM1 hgy hgn hnw
              go_wp2_with (go_at_call 55; refine KG1.out.mono ?_; rintro e W1 ⟨rfl, hb1⟩)
              go_roundw
              case rel => exact ⟨k + 1, gs, _, by omega, by go_num, HM2, by omega, HVX.out.later hb1, HPX.out.later hb1⟩
              case measure => simp [intOf]; omega
          · have hkn : (kd != 3) = false := by simpa using hk3
            have hf0 := hcm hk3
            subst hf0
            have hmv : M.movedDfn (M.count l 0 p.frags) ⟨nm, kd, 0, pos, sz, al⟩ = ⟨nm, kd, 0, pos, sz, al⟩ := by unfold M.movedDfn; rw [hk3]; rfl
            rw [hmv] at HM1
            have HM2 : Hid (gs ++ [⟨nm, kd, 0, pos, sz, al⟩] = M.movedDefs (M.count l 0 p.frags) (p.defs.take (k + 1))) := HM1.symm
            clear hmv hst hcm HM1 hk3
            go_upto_region 22 with fail
            have hbA : Below wr.heap.size wr (wr.alloc (.cells #[.string nm, .int .i64 kd, .int .i64 0, .int .i64 pos, .int .i64 sz, .int .i64 al] 53)) := (Below.refl _ _).alloc (Nat.le_refl _) _
            have nbZ := heap_alloc_new wr (.cells #[.string nm, .int .i64 kd, .int .i64 0, .int .i64 pos, .int .i64 sz, .int .i64 al] 53)
            have HVZ' : Hid _ := HVr.out.later hbA
            have HPZ' : Hid _ := HPr.out.later hbA
            clear HVr HPr e0 e1 e2 e3 e4 e5 hbA
            generalize wr.alloc (.cells #[.string nm, .int .i64 kd, .int .i64 0, .int .i64 pos, .int .i64 sz, .int .i64 al] 53) = Z at *
            generalize wr.heap.size = nd at *
            have hldZ : nd < Z.heap.size := (Array.getElem?_eq_some_iff.1 nbZ).1
            have z0 : Z.cell? ⟨nd, 0, none⟩ = some (.string nm) := cellB nbZ 0
            have z1 : Z.cell? ⟨nd, 1, none⟩ = some (.int .i64 kd) := cellB nbZ 1
            have z2 : Z.cell? ⟨nd, 2, none⟩ = some (.int .i64 0) := cellB nbZ 2
            have z3 : Z.cell? ⟨nd, 3, none⟩ = some (.int .i64 pos) := cellB nbZ 3
            have z4 : Z.cell? ⟨nd, 4, none⟩ = some (.int .i64 sz) := cellB nbZ 4
            have z5 : Z.cell? ⟨nd, 5, none⟩ = some (.int .i64 al) := cellB nbZ 5
            clear nbZ
            have hAl : Below Z.heap.size Z (Z.alloc (.cells #[.string nm, .int .i64 kd, .int .i64 0, .int .i64 pos, .int .i64 sz, .int .i64 al] 53)) := (Below.refl _ _).alloc (Nat.le_refl _) _
            have hrowA := (HPZ'.out.later hAl).rowD
            have hnews : ∀ j u, (#[.string nm, .int .i64 kd, .int .i64 0, .int .i64 pos, .int .i64 sz, .int .i64 al] : Array Value).toList[j]? = some u → (Z.alloc (.cells #[.string nm, .int .i64 kd, .int .i64 0, .int .i64 pos, .int .i64 sz, .int .i64 al] 53)).cell? ((⟨Z.heap.size, 0, none⟩ : Addr).add j) = some u := World.news_of_block (heap_alloc_new Z _)
            have HEnd : Hid (∀ v' w5, (Z.alloc (.cells #[.string nm, .int .i64 kd, .int .i64 0, .int .i64 pos, .int .i64 sz, .int .i64 al] 53)).grownBy w5 (Value.slice aV gs.length cV).ownBlock → w5.ownsRow w.heap.size 53 6 v' (gs.length + 1) (gs.flatMap encDfn ++ (#[.string nm, .int .i64 kd, .int .i64 0, .int .i64 pos, .int .i64 sz, .int .i64 al] : Array Value).toList) → DVars w (w5.setCell ⟨w.heap.size + 4, 1, none⟩ v') #[.slice a1 p.frags.length c1, .slice (some ⟨b, off, none⟩) p.defs.length c2] (.slice a3 l.length c3) (.slice aF es.length cF) v' ∧ PR (w5.setCell ⟨w.heap.size + 4, 1, none⟩ v') w.heap.size es (gs ++ [⟨nm, kd, 0, pos, sz, al⟩]) (.slice aF es.length cF) v') := fun v' w5 hg5 ho5 => dd_add (d := ⟨nm, kd, 0, pos, sz, al⟩) (HVZ'.out.later hAl) (HPZ'.out.later hAl) hg5 ho5 hnm
            have HQ4 : Hid (∀ w5, (Z.alloc (.cells #[.string nm, .int .i64 kd, .int .i64 0, .int .i64 pos, .int .i64 sz, .int .i64 al] 53)).grownBy w5 (Value.slice aV gs.length cV).ownBlock → w5.heap[w.heap.size + 1 + 1 + 1 + 1]? = some (.cells #[.slice aF es.length cF, .slice aV gs.length cV] 25 (0, 0))) := fun w5 hg5 => block_kept (HPZ'.out.later hAl).rowD hg5 (HVZ'.out.later hAl).b4 (by decide)
            have o1 : Z.cell? ⟨w.heap.size + 1 + 1 + 1 + 1, 1, none⟩ = some (.slice aV gs.length cV) := cellB HVZ'.out.b4 1
            have hl4 : w.heap.size + 1 + 1 + 1 + 1 < Z.heap.size := (Array.getElem?_eq_some_iff.1 HVZ'.out.b4).1
            have hwW : w.heap.size ≤ Z.heap.size := HVZ'.out.below.size
            clear hAl
            go_wp2_with (at_builtin; refine wpList_append_own _ rfl _ _ 23 rfl w.heap.size 53 i3 (.agg #[.string ⟨#[]⟩, .int .i64 0, .int .i64 0, .int .i64 0, .int .i64 0, .int .i64 0]) 6 56 Tryd.underlying23 hi3 hu0 hu1 hu2 rfl (by decide) _ _ _ rfl hrowA ⟨Z.heap.size, 0, none⟩ 1 1 (#[.string nm, .int .i64 kd, .int .i64 0, .int .i64 pos, .int .i64 sz, .int .i64 al] : Array Value).toList rfl rfl hnews (fun u hu => by simp at hu; rcases hu with rfl | rfl | rfl | rfl | rfl | rfl <;> rfl) (by unfold maxLen; omega) (by omega) (by simp; omega) ?_; intro v5 w5 ho5 hg5 hn5; obtain ⟨a5, c5, rfl⟩ := own_len ho5; have hq5 := HQ4.out w5 hg5; have m1 : w5.cell? ⟨w.heap.size + 1 + 1 + 1 + 1, 1, none⟩ = some (.slice aV gs.length cV) := cellB hq5 1; have mz1 : w5.frozen? ⟨w.heap.size + 1 + 1 + 1 + 1, 1, none⟩ = false := frozenB hq5 1)
            have HFin := HEnd.out _ _ hg5 ho5
            go_roundw
            case rel => exact ⟨k + 1, gs ++ [⟨nm, kd, 0, pos, sz, al⟩], _, by omega, by go_num, HM2, by rw [List.length_append]; simp; omega, HFin.1, HFin.2⟩
            case measure => simp [intOf]; omega
        · have hkl : k = p.defs.length := by omega
          have HG : Hid (gs = (M.drop p l).defs) := by rw [Hid, HM.out, hkl, List.take_length]; rfl
          clear HM
          subst hkl
          have o0 : wr.cell? ⟨w.heap.size + 1 + 1 + 1 + 1, 0, none⟩ = some (.slice aF es.length cF) := cellB HVr.out.b4 0
          have o1 : wr.cell? ⟨w.heap.size + 1 + 1 + 1 + 1, 1, none⟩ = some (.slice aV gs.length cV) := cellB HVr.out.b4 1
          have hl2 : w.heap.size + 1 + 1 < wr.heap.size := (Array.getElem?_eq_some_iff.1 HVr.out.b2).1
          have d0 : wr.cell? ⟨w.heap.size + 1 + 1, 0, none⟩ = some (.slice none 0 0) := cellB HVr.out.b2 0
          have d1 : wr.cell? ⟨w.heap.size + 1 + 1, 1, none⟩ = some (.slice none 0 0) := cellB HVr.out.b2 1
          have y0 : wr.frozen? ⟨w.heap.size + 1 + 1, 0, none⟩ = false := frozenB HVr.out.b2 0
          have y1 : wr.frozen? ⟨w.heap.size + 1 + 1, 1, none⟩ = false := frozenB HVr.out.b2 1
          have u0 : (wr.setCell ⟨w.heap.size + 1 + 1, 0, none⟩ (.slice aF es.length cF)).heap[w.heap.size + 1 + 1]? = some (.cells #[.slice aF es.length cF, .slice none 0 0] 25 (0, 0)) := setB' HVr.out.b2 _
          have HPe : Hid (PR ((wr.setCell ⟨w.heap.size + 1 + 1, 0, none⟩ (.slice aF es.length cF)).setCell ⟨w.heap.size + 1 + 1, 1, none⟩ (.slice aV gs.length cV)) w.heap.size es gs (.slice aF es.length cF) (.slice aV gs.length cV)) := (HPr.out.set HVr.out.b2).set u0
          have HBe : Hid (Below w.heap.size w ((wr.setCell ⟨w.heap.size + 1 + 1, 0, none⟩ (.slice aF es.length cF)).setCell ⟨w.heap.size + 1 + 1, 1, none⟩ (.slice aV gs.length cV))) := (HVr.out.below.setCell (by show w.heap.size ≤ w.heap.size + 1 + 1; omega) _).setCell (by show w.heap.size ≤ w.heap.size + 1 + 1; omega) _
          clear u0 HVr HPr
          go_wp2
          refine bodyPost_ret (v := .agg #[.slice aF es.length cF, .slice aV gs.length cV]) (by simp [results, Tryd.results23, go_sem, d0, d1]) rfl ?_
          exact ⟨HBe.out, es, _, _, rfl, by rw [← HG.out]; exact HPe.out, HFr.out, HAp.out⟩

end Go.Proofs.YthbdfnphnppagaaDoor
