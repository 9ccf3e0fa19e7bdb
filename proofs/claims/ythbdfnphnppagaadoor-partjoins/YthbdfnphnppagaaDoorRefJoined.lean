/-
  The contract of the reference's Joined, of two whole parts.
-/
import Derived.Test.YthbdfnphnppagaaDoorRefJoinMem
import Derived.Test.YthbdfnphnppagaaDoorRefDropped
import Derived.Test.YthbdfnphnppagaaDoorRefGroups
import Derived.Maps.AppendAt
namespace Go.Proofs.YthbdfnphnppagaaDoor
open Go Go.RowKit
set_option linter.unusedVariables false

theorem row_cellsD {w : World} {B : Nat} {v : Value} {ds : List M.Dfn} (h : w.ownsRow B 53 6 v ds.length (ds.flatMap encDfn)) (k : Nat) (hk : k < ds.length) :
    ∃ g cap, v = .slice (some ⟨g, 0, none⟩) ds.length cap ∧ ∀ i, i < 6 → w.cell? ⟨g, 0 + k * 6 + i, none⟩ = some ((encDfn (ds.getD k dfn0)).getD i undef) := by
  have hs := row_slice (k := 6) dfn0 encDfn (fun _ => rfl) ds h
  rcases h.2 with ⟨h1, h2⟩ | ⟨g, cap, cur, h1, _⟩
  · omega
  · rw [h1] at hs
    obtain ⟨b, off, he, hc⟩ := hs.at k hk
    cases he
    exact ⟨g, cap, h1, hc⟩

set_option maxHeartbeats 8000000 in
set_option maxRecDepth 100000 in
theorem joined_any (a b : M.Prt) (a1 a2 b1 b2 : Option Addr) (c1 c2 d1 d2 : Nat) (w : World) (hf : FragsAt w (.slice a1 a.frags.length c1) a.frags) (hd : DefsAt w (.slice a2 a.defs.length c2) a.defs)
    (hf' : FragsAt w (.slice b1 b.frags.length d1) b.frags) (hd' : DefsAt w (.slice b2 b.defs.length d2) b.defs) (hoa : M.Ok a) (hob : M.Ok b) :
    Calls Tryd.prog 27 #[.agg #[.slice a1 a.frags.length c1, .slice a2 a.defs.length c2], .agg #[.slice b1 b.frags.length d1, .slice b2 b.defs.length d2]] w fun e w' =>
      Below w.heap.size w w' ∧ ∃ es vF vD, e = .returned (.tuple #[.agg #[vF, vD], .int .i64 (M.join a b).2]) ∧ PR w' w.heap.size es (M.join a b).1.defs vF vD ∧ es.map (·.f) = (M.join a b).1.frags := by
  obtain ⟨i2, hi2, hx0, hx1, hx2⟩ := info_parts (P := Tryd.prog) (e := 29) (z := .agg #[.int .i64 0, .int .i64 0, .string ⟨#[]⟩, .slice none 0 0, .int .i64 0, .slice none 0 0]) (size := 6) (bytes := 88) (by kernel_rfl)
  obtain ⟨i3, hi3, hu0, hu1, hu2⟩ := info_parts (P := Tryd.prog) (e := 53) (z := .agg #[.string ⟨#[]⟩, .int .i64 0, .int .i64 0, .int .i64 0, .int .i64 0, .int .i64 0]) (size := 6) (bytes := 56) (by kernel_rfl)
  have hna := hoa.nf
  have hda := hoa.nd
  have HOb : Hid (M.Ok (M.drop b (M.groups a.frags))) := M.ok_drop hob _
  have hnc := HOb.out.nf
  have hdc := HOb.out.nd
  have HJn : Hid (M.join a b = bif M.full (M.plus a (M.shift a.frags.length (M.drop b (M.groups a.frags)))) then (M.nil, 10) else (M.plus a (M.shift a.frags.length (M.drop b (M.groups a.frags))), 0)) := by
    rw [Hid]; unfold M.join
    rw [if_pos ((M.ok_iff a).2 hoa), if_pos ((M.ok_iff b).2 hob), M.both_shift a b hoa hob]
  go_enter Tryd.func27, Tryd.ntmps27
  go_upto_region 1 with fail
  have HY : Hid (∃ Y, Y = (((w.alloc (.cells #[.slice a1 a.frags.length c1, .slice a2 a.defs.length c2] 25)).alloc (.cells #[.slice b1 b.frags.length d1, .slice b2 b.defs.length d2] 25)).alloc (.cells #[.slice none 0 0, .slice none 0 0] 25)) ∧
      JV w Y #[.slice a1 a.frags.length c1, .slice a2 a.defs.length c2] #[.slice b1 b.frags.length d1, .slice b2 b.defs.length d2]) := by
    refine ⟨_, rfl, ?_⟩
    have e2 : (((w.alloc (.cells #[.slice a1 a.frags.length c1, .slice a2 a.defs.length c2] 25)).alloc (.cells #[.slice b1 b.frags.length d1, .slice b2 b.defs.length d2] 25)).alloc (.cells #[.slice none 0 0, .slice none 0 0] 25)).heap[w.heap.size + 2]? = some (.cells #[.slice none 0 0, .slice none 0 0] 25 (0, 0)) := by
      have := heap_alloc_new ((w.alloc (.cells #[.slice a1 a.frags.length c1, .slice a2 a.defs.length c2] 25)).alloc (.cells #[.slice b1 b.frags.length d1, .slice b2 b.defs.length d2] 25)) (.cells #[.slice none 0 0, .slice none 0 0] 25)
      simpa using this
    exact ⟨(heap_alloc_old _ _ (by simp; omega)).trans (heap_alloc2_old _ _ _), (heap_alloc_old _ _ (by simp)).trans (heap_alloc2_new _ _ _), e2, (((Below.refl _ _).alloc (Nat.le_refl _) _).alloc (by simp) _).alloc (by simp; omega) _⟩
  obtain ⟨Y, hY, hJ⟩ := HY.out
  rw [← hY]
  clear hY HY
  have KO : Hid (Calls Tryd.prog 24 #[.agg #[.slice a1 a.frags.length c1, .slice a2 a.defs.length c2]] Y _) := ownPart_any a a1 a2 c1 c2 Y (hf.later hJ.below) (hd.later hJ.below) (room_ok hoa)
  have HJ : Hid (JV w Y #[.slice a1 a.frags.length c1, .slice a2 a.defs.length c2] #[.slice b1 b.frags.length d1, .slice b2 b.defs.length d2]) := hJ
  have cp0 : Y.cell? ⟨w.heap.size, 0, none⟩ = some (.slice a1 a.frags.length c1) := cellB hJ.q0 0
  have cp1 : Y.cell? ⟨w.heap.size, 1, none⟩ = some (.slice a2 a.defs.length c2) := cellB hJ.q0 1
  have HF : Hid (FragsAt w (.slice a1 a.frags.length c1) a.frags) := hf
  have HF' : Hid (FragsAt w (.slice b1 b.frags.length d1) b.frags) := hf'
  have HD' : Hid (DefsAt w (.slice b2 b.defs.length d2) b.defs) := hd'
  have HB : Hid (M.Ok b) := hob
  clear hJ hf hd hf' hd' hoa hob
  go_upto_region 2 with (go_at_call 24; refine KO.out.mono ?_; rintro e W0 ⟨hb0, eA, vF, vD, rfl, hP0, heA, hap0⟩; obtain ⟨xF, yF, rfl⟩ := own_len hP0.rowF; obtain ⟨xD, yD, rfl⟩ := own_len hP0.rowD)
  have HEA : Hid (eA.map (·.f) = a.frags) := heA
  have hnA : eA.length = a.frags.length := by rw [← heA, List.length_map]
  have HX : Hid (∃ X, X = W0.alloc (.cells #[.slice xF eA.length yF, .slice xD a.defs.length yD] 25) ∧ JV w X #[.slice a1 a.frags.length c1, .slice a2 a.defs.length c2] #[.slice b1 b.frags.length d1, .slice b2 b.defs.length d2] ∧ J0 w X W0.heap.size eA a.defs (.slice xF eA.length yF) (.slice xD a.defs.length yD)) := by
    have hYs := HJ.out.below.size
    have hA : Below W0.heap.size W0 (W0.alloc (.cells #[.slice xF eA.length yF, .slice xD a.defs.length yD] 25)) := (Below.refl _ _).alloc (Nat.le_refl _) _
    have hJ1 := (HJ.out.later hb0).later hA
    have hl2 := (Array.getElem?_eq_some_iff.1 (HJ.out.later hb0).q2).1
    exact ⟨_, rfl, hJ1, hJ1.q2, heap_alloc_new _ _, hJ1.below, hl2, (hP0.base hYs).later hA, hap0⟩
  obtain ⟨X, hXe, hJX, hJ0⟩ := HX.out
  rw [← hXe]
  clear hXe HX hb0 hP0 heA hap0 cp0 cp1 KO HJ
  generalize W0.heap.size = q6 at *
  have HJ : Hid (JV w X #[.slice a1 a.frags.length c1, .slice a2 a.defs.length c2] #[.slice b1 b.frags.length d1, .slice b2 b.defs.length d2]) := hJX
  have HJ0 : Hid (J0 w X q6 eA a.defs (.slice xF eA.length yF) (.slice xD a.defs.length yD)) := hJ0
  have cp0 : X.cell? ⟨w.heap.size, 0, none⟩ = some (.slice a1 a.frags.length c1) := cellB hJX.q0 0
  clear hJX hJ0
  go_upto_region 3 with fail
  have HS : Hid (∀ W, Below X.heap.size X W → (W.cell? ⟨w.heap.size, 0, none⟩ = some (.slice a1 a.frags.length c1) ∧ W.cell? ⟨w.heap.size, 1, none⟩ = some (.slice a2 a.defs.length c2) ∧ W.cell? ⟨w.heap.size + 1, 0, none⟩ = some (.slice b1 b.frags.length d1) ∧ W.cell? ⟨w.heap.size + 1, 1, none⟩ = some (.slice b2 b.defs.length d2))) := fun W hW => by
    have y := HJ.out.later hW
    exact ⟨cellB y.q0 0, cellB y.q0 1, cellB y.q1 0, cellB y.q1 1⟩
  have KG : Hid (∀ W, Below X.heap.size X W → Calls Tryd.prog 22 #[.agg #[.slice a1 a.frags.length c1, .slice a2 a.defs.length c2]] W fun e w' => Below W.heap.size W w' ∧ ∃ x y, e = .returned (.slice x (M.groups a.frags).length y) ∧ StrsAt w' (.slice x (M.groups a.frags).length y) (M.groups a.frags)) := fun W hW => rgroups_any a.frags a1 a2 c1 c2 a.defs.length W (HF.out.later (HJ.out.later hW).below) hna
  have KD : Hid (∀ x y W, StrsAt W (.slice x (M.groups a.frags).length y) (M.groups a.frags) → Below X.heap.size X W → Calls Tryd.prog 23 #[.agg #[.slice b1 b.frags.length d1, .slice b2 b.defs.length d2], .slice x (M.groups a.frags).length y] W fun e w' =>
      Below W.heap.size W w' ∧ ∃ es vF vD, e = .returned (.agg #[vF, vD]) ∧ PR w' W.heap.size es (M.drop b (M.groups a.frags)).defs vF vD ∧ es.map (·.f) = (M.drop b (M.groups a.frags)).frags ∧ es.Pairwise Apart) := fun x y W hs hW => dropped_any b (M.groups a.frags) b1 b2 x d1 d2 y W (HF'.out.later (HJ.out.later hW).below) (HD'.out.later (HJ.out.later hW).below) hs HB.out
  have hA0 : Below X.heap.size X X.drew := (Below.refl _ _).drew
  have hA1 : Below X.heap.size X (X.drew.alloc (.cells #[.slice none 0 0, .slice none 0 0] 25)) := hA0.alloc (Nat.le_refl _) _
  have HnA : Hid (eA.length = a.frags.length) := hnA
  clear cp0 HF HF' HD' HB hnA
  generalize M.groups a.frags = gr at *
  generalize M.drop b gr = db at *
  generalize gr.length = ng at *
  go_cut [8] (fun s8 wx => ∃ q8 eC cF cD, s8 = .pointer (some ⟨q8, 0, none⟩) ∧ Hid (JFr w wx q6 q8 eC eA eC a.defs db.defs (.slice xF eA.length yF) (.slice xD a.defs.length yD) cF cD) ∧ Hid (eC.map (·.f) = db.frags))
  case first =>
    go_region_held3 (fun w' => w'.cell? ⟨w.heap.size, 0, none⟩ = some (.slice a1 a.frags.length c1) ∧ w'.cell? ⟨w.heap.size, 1, none⟩ = some (.slice a2 a.defs.length c2) ∧ w'.cell? ⟨w.heap.size + 1, 0, none⟩ = some (.slice b1 b.frags.length d1) ∧ w'.cell? ⟨w.heap.size + 1, 1, none⟩ = some (.slice b2 b.defs.length d2)) (first | exact HS.out _ hA0 | exact HS.out _ hA1 | exact HS.out _ hX2 | exact HS.out _ hX1 | exact HS.out _ (hX1.alloc hX1.size _) | exact HS.out _ (hX2.alloc hX2.size _) | exact HS.out _ (Below.setCell (Below.setCell hX2 (by first | exact Nat.le_refl _ | exact hX1.size) _) (by first | exact Nat.le_refl _ | exact hX1.size) _)) (first | (go_at_call 22; refine (KG.out _ (by first | exact hA0 | exact hA1)).mono ?_; rintro e w1 ⟨hb1, x, y, rfl, hSt⟩; have hX1 : Below X.heap.size X w1 := (by first | exact hA0.trans (hb1.mono hA0.size) | exact hA1.trans (hb1.mono hA1.size)); try (have hq1 : w1.heap[X.heap.size]? = some (.cells #[.slice none 0 0, .slice none 0 0] 25 (0, 0)) := (hb1.block _ (by simp)).trans (heap_alloc_new X.drew _))) | (go_at_call 23; refine (KD.out _ _ _ (by first | exact hSt | exact hSt.later ((Below.refl _ _).alloc (Nat.le_refl _) _)) (by first | exact hX1 | exact hX1.alloc hX1.size _)).mono ?_; rintro e w2 ⟨hb2, eC, cF, cD, rfl, hP2, hes, hap⟩; have hX2 : Below X.heap.size X w2 := (by first | exact hX1.trans (hb2.mono hX1.size) | exact (hX1.alloc hX1.size _).trans (hb2.mono (hX1.alloc hX1.size _).size)); obtain ⟨aV, nV, cV, rfl⟩ := own_form hP2.rowF; obtain ⟨aW, nW, cW, rfl⟩ := own_form hP2.rowD; first | (have hcc : Below w1.heap.size w1 w2 := hb2; first | (have hq2 : w2.heap[X.heap.size]? = some (.cells #[.slice none 0 0, .slice none 0 0] 25 (0, 0)) := (hb2.block _ (Array.getElem?_eq_some_iff.1 hq1).1).trans hq1; have k0 : w2.cell? ⟨X.heap.size, 0, none⟩ = some (.slice none 0 0) := cellB hq2 0; have k1 : w2.cell? ⟨X.heap.size, 1, none⟩ = some (.slice none 0 0) := cellB hq2 1; have f0 := frozenB hq2 0; have f1 := frozenB hq2 1) | skip) | (have hq2 : w2.heap[w1.heap.size]? = some (.cells #[.slice none 0 0, .slice none 0 0] 25 (0, 0)) := (hb2.block _ (by simp)).trans (heap_alloc_new w1 _); have k0 : w2.cell? ⟨w1.heap.size, 0, none⟩ = some (.slice none 0 0) := cellB hq2 0; have k1 : w2.cell? ⟨w1.heap.size, 1, none⟩ = some (.slice none 0 0) := cellB hq2 1; have f0 := frozenB hq2 0; have f1 := frozenB hq2 1)))
    all_goals
      have hz1 := hX1.size
      have hz2 := hX2.size
      go_wp2_with fail
      go_meet
      first
        | exact ⟨_, eC, _, _, rfl, j_new HJ0.out hX2 hP2 (by first | exact hz1 | (simp; omega)) hap, hes⟩
        | exact ⟨_, eC, _, _, rfl, j_set HJ0.out hX2 hq2 (by first | exact Nat.le_refl _ | exact hz1) hP2 (by first | exact hz1 | (simp; omega)) hap, hes⟩
  case rest =>
    obtain ⟨q8, eC, cF, cD, rfl, HJF, HEC⟩ := hcut
    have HFitC : Hid (∀ f ∈ db.frags, ∀ r ∈ f.rels, M.bare r.name = true → -1 ≤ r.frag ∧ r.frag < db.frags.length) := fun f hf' r hr hb => HOb.out.fits f hf' r hr hb
    have HLenC : Hid (∀ f ∈ db.frags, f.rels.length ≤ 8) := fun f hf' => (len_ok f (HOb.out.shape f hf')).2
    have HStC : Hid (∀ d ∈ db.defs, (d.kind == 3) = false → 0 ≤ d.frag ∧ d.frag < db.frags.length) := fun d hd' hk => by
      obtain ⟨f, h1, h2, _⟩ := HOb.out.stands d hd' hk
      have := (List.getElem?_eq_some_iff.1 h2).1
      omega
    have HNc : Hid (eC.length = db.frags.length) := by rw [Hid, ← HEC.out, List.length_map]
    have hle60 : eC.length ≤ 60 := by rw [HNc.out]; exact hnc
    have hleA : eA.length ≤ 60 := by rw [HnA.out]; exact hna
    clear HS KG KD hA0 hA1 HJ HJ0 HOb
    obtain ⟨xC, yC, rfl⟩ := own_len HJF.out.src
    obtain ⟨xE, yE, rfl⟩ := own_len HJF.out.srcD
    have k80 : wc.cell? ⟨q8, 0, none⟩ = some (.slice xC eC.length yC) := cellB HJF.out.vars.b8 0
    have HJ1 : Hid (JFr w wc q6 q8 eC eA (eC.drop 0) a.defs db.defs (.slice xF eA.length yF) (.slice xD a.defs.length yD) (.slice xC eC.length yC) (.slice xE db.defs.length yE)) := HJF.out
    clear HJF
    generalize hn : (a.frags.length : Int) = n at *
    have Hn : Hid ((a.frags.length : Int) = n) := hn
    have hn60 : 0 ≤ n ∧ n ≤ 60 := by omega
    clear hn
    go_upto_region 5 with fail
    clear k80
    go_loopw [27] (fun s27 wr => ∃ (k : Nat) (es : List Ent) (vF : Value), k ≤ eC.length ∧ s27 = .int .i64 k ∧ Hid (es.map (·.f) = a.frags ++ (eC.take k).map (fun e => M.shiftFrg n e.f)) ∧ es.length ≤ 60 + k ∧ Hid (JFr w wr q6 q8 eC es (eC.drop k) a.defs db.defs vF (.slice xD a.defs.length yD) (.slice xC eC.length yC) (.slice xE db.defs.length yE))) (fun s27 _ => eC.length - (intOf s27).toNat)
    case atStart => exact ⟨0, eA, _, Nat.zero_le _, rfl, by rw [Hid, HEA.out]; simp, by omega, HJ1.out⟩
    case round =>
      obtain ⟨k, es, vF, hk, rfl, HE, hek, HD⟩ := hrel
      clear HJ1
      by_cases hlt : k < eC.length
      · have hdrop := drop_getD eC ent0 k hlt
        have hmem : (eC.getD k ent0).f ∈ db.frags := by
          rw [← HEC.out]; exact List.mem_map.2 ⟨_, getD_mem _ _ _ hlt, rfl⟩
        have HD1 : Hid (JFr w wr q6 q8 eC es (eC.getD k ent0 :: eC.drop (k + 1)) a.defs db.defs vF (.slice xD a.defs.length yD) (.slice xC eC.length yC) (.slice xE db.defs.length yE)) := by rw [Hid, ← hdrop]; exact HD.out
        obtain ⟨g0, y0, hgv, hcl⟩ := row_cells6 HD.out.src k hlt
        cases hgv
        have HE1 : Hid (a.frags ++ (eC.take (k + 1)).map (fun e => M.shiftFrg n e.f) = es.map (·.f) ++ [M.shiftFrg n (eC.getD k ent0).f]) := by
          rw [Hid, map_take_succ _ ent0 _ _ hlt, HE.out, List.append_assoc]
        have HFt : Hid (∀ r ∈ (eC.getD k ent0).f.rels, M.bare r.name = true → -1 ≤ r.frag ∧ r.frag < db.frags.length) := HFitC.out _ hmem
        have h8 : (eC.getD k ent0).f.rels.length ≤ 8 := HLenC.out _ hmem
        clear hdrop HE HD hmem
        have e0 := hcl 0 (by decide)
        have e1 := hcl 1 (by decide)
        have e2 := hcl 2 (by decide)
        have e3 := hcl 3 (by decide)
        have e4 := hcl 4 (by decide)
        have e5 := hcl 5 (by decide)
        clear hcl
        generalize hrest : eC.drop (k + 1) = rest at *
        have HRest : Hid (eC.drop (k + 1) = rest) := hrest
        clear hrest
        generalize eC.getD k ent0 = en at *
        obtain ⟨⟨s, al, g, bs, sz, rs⟩, bv, rv⟩ := en
        simp only [entCells, List.getD_cons_zero, List.getD_cons_succ, Nat.zero_add, Nat.add_zero] at e0 e1 e2 e3 e4 e5
        obtain ⟨hby, hrl, _⟩ := HD1.out.come _ (List.mem_cons_self ..)
        obtain ⟨xb, yb, rfl⟩ : ∃ x y, bv = .slice x bs.length y := own_len hby
        obtain ⟨xr, yr, rfl⟩ : ∃ x y, rv = .slice x rs.length y := own_len hrl
        clear hby hrl
        have hkl : (k : Int) < (eC.length : Int) := by omega
        have hg0 : g0 < wr.heap.size := World.block_lt_of_cell? _ _ e0
        have hw0 : w.heap.size ≤ wr.heap.size := HD1.out.vars.below.size
        go_upto_region 7 with fail
        have hbX : Below wr.heap.size wr (wr.alloc (.cells #[.int .i64 s, .int .i64 al, .string g, .slice xb bs.length yb, .int .i64 sz, .slice xr rs.length yr] 29)) := (Below.refl _ _).alloc (Nat.le_refl _) _
        have fb := heap_alloc_new wr (.cells #[.int .i64 s, .int .i64 al, .string g, .slice xb bs.length yb, .int .i64 sz, .slice xr rs.length yr] 29)
        have HX : Hid _ := HD1.out.later hbX
        clear HD1 e0 e1 e2 e3 e4 e5 hbX
        generalize wr.alloc (.cells #[.int .i64 s, .int .i64 al, .string g, .slice xb bs.length yb, .int .i64 sz, .slice xr rs.length yr] 29) = X1 at *
        generalize wr.heap.size = nf at *
        have fc5 : X1.cell? ⟨nf, 5, none⟩ = some (.slice xr rs.length yr) := cellB fb 5
        go_upto_region 8 with fail
        clear fc5
        go_loopw [34] (fun s34 wi => ∃ (j : Nat), j ≤ rs.length ∧ s34 = .int .i64 j ∧ Hid (JFr w wi q6 q8 eC es (shE n ⟨⟨s, al, g, bs, sz, rs⟩, .slice xb bs.length yb, .slice xr rs.length yr⟩ j :: rest) a.defs db.defs vF (.slice xD a.defs.length yD) (.slice (some ⟨g0, 0, none⟩) eC.length yC) (.slice xE db.defs.length yE)) ∧ wi.heap[nf]? = some (.cells #[.int .i64 s, .int .i64 al, .string g, .slice xb bs.length yb, .int .i64 sz, .slice xr rs.length yr] 29 (0, 0))) (fun s34 _ => rs.length - (intOf s34).toNat)
        case atStart => exact ⟨0, Nat.zero_le _, rfl, by rw [sh_zero]; exact HX.out, fb⟩
        case round =>
          obtain ⟨j, hj, rfl, HI, fbi⟩ := hrel
          clear HX fb
          have hnfi : nf < wr.heap.size := (Array.getElem?_eq_some_iff.1 fbi).1
          by_cases hjt : j < rs.length
          · have hrow := (HI.out.come _ (List.mem_cons_self ..)).2.1
            have hcl := sh_len n ⟨⟨s, al, g, bs, sz, rs⟩, .slice xb bs.length yb, .slice xr rs.length yr⟩ j hj
            obtain ⟨g1, y1, hgv, hcc, hfz, cs1, hcs1⟩ := row_cells5 hrow rfl j (by rw [hcl]; exact hjt)
            have hcg := sh_get n ⟨⟨s, al, g, bs, sz, rs⟩, .slice xb bs.length yb, .slice xr rs.length yr⟩ j hjt
            rw [hcg] at hcc
            rw [hcl] at hgv
            cases hgv
            have hFr := HFt.out _ (getD_mem rs rel0 j hjt)
            have HN : Hid ((M.bare (rs.getD j rel0).name && !((rs.getD j rel0).frag == -1)) = false → shE n ⟨⟨s, al, g, bs, sz, rs⟩, .slice xb bs.length yb, .slice (some ⟨g1, 0, none⟩) rs.length yr⟩ (j + 1) = shE n ⟨⟨s, al, g, bs, sz, rs⟩, .slice xb bs.length yb, .slice (some ⟨g1, 0, none⟩) rs.length yr⟩ j) := sh_same n ⟨⟨s, al, g, bs, sz, rs⟩, .slice xb bs.length yb, .slice (some ⟨g1, 0, none⟩) rs.length yr⟩ j hjt
            have HBr : Hid ((M.bare (rs.getD j rel0).name && !((rs.getD j rel0).frag == -1)) = true → setFrag (shE n ⟨⟨s, al, g, bs, sz, rs⟩, .slice xb bs.length yb, .slice (some ⟨g1, 0, none⟩) rs.length yr⟩ j) j ((rs.getD j rel0).frag + n) = shE n ⟨⟨s, al, g, bs, sz, rs⟩, .slice xb bs.length yb, .slice (some ⟨g1, 0, none⟩) rs.length yr⟩ (j + 1)) := sh_set n ⟨⟨s, al, g, bs, sz, rs⟩, .slice xb bs.length yb, .slice (some ⟨g1, 0, none⟩) rs.length yr⟩ j hjt
            have r0 := hcc 0 (by decide)
            have r1 := hcc 1 (by decide)
            have r2 := hcc 2 (by decide)
            have r3 := hcc 3 (by decide)
            have r4 := hcc 4 (by decide)
            clear hcc hcg hcl hrow
            generalize rs.getD j rel0 = rr at *
            obtain ⟨pos, kd, nm, fr, ad⟩ := rr
            simp only [encRel, List.getD_cons_zero, List.getD_cons_succ, Nat.zero_add, Nat.add_zero] at r0 r1 r2 r3 r4 hFr HN HBr
            have hjl : (j : Int) < (rs.length : Int) := by omega
            have hj0 : (0 : Int) ≤ (j : Int) := by omega
            have hg1 : g1 < wr.heap.size := World.block_lt_of_cell? _ _ r0
            have hw1 : w.heap.size ≤ wr.heap.size := HI.out.vars.below.size
            have HEx : Hid (∀ o, JFr w (wr.alloc o) q6 q8 eC es (shE n ⟨⟨s, al, g, bs, sz, rs⟩, .slice xb bs.length yb, .slice (some ⟨g1, 0, none⟩) rs.length yr⟩ j :: rest) a.defs db.defs vF (.slice xD a.defs.length yD) (.slice (some ⟨g0, 0, none⟩) eC.length yC) (.slice xE db.defs.length yE) ∧ (wr.alloc o).heap[nf]? = some (.cells #[.int .i64 s, .int .i64 al, .string g, .slice xb bs.length yb, .int .i64 sz, .slice (some ⟨g1, 0, none⟩) rs.length yr] 29 (0, 0))) := fun o => ⟨HI.out.later ((Below.refl _ _).alloc (Nat.le_refl _) o), (heap_alloc_old _ _ hnfi).trans fbi⟩
            cases hb : M.bare nm
            · have hb' : nm.toList.isEmpty = false := hb
              have HN2 : Hid _ := HN.out (by rw [hb]; rfl)
              clear hb HBr HN fbi hcs1 hfz hFr
              go_wp2
              go_roundw
              case rel => exact ⟨j + 1, by omega, by go_num, by rw [HN2.out]; exact (HEx.out _).1, (HEx.out _).2⟩
              case measure => simp [intOf]; omega
            · have hb' : nm.toList.isEmpty = true := hb
              cases hfr : (fr == -1)
              · have hfn : (fr != -1) = true := by simp [bne, hfr]
                have hfr' := hFr hb
                have hfne : fr ≠ -1 := by simpa using hfr
                have HB2 : Hid _ := HBr.out (by rw [hb, hfr]; rfl)
                clear hb HBr HN hFr hfr
                go_upto_region 11 with fail
                have hbA : Below wr.heap.size wr (wr.alloc (.cells #[.int .i64 pos, .int .i64 kd, .string nm, .int .i64 fr, .int .i64 ad] 76)) := (Below.refl _ _).alloc (Nat.le_refl _) _
                have nb := heap_alloc_new wr (.cells #[.int .i64 pos, .int .i64 kd, .string nm, .int .i64 fr, .int .i64 ad] 76)
                have HX2 : Hid _ := HI.out.later hbA
                have fb2 := (hbA.block _ hnfi).trans fbi
                have gc2 := (hbA.block _ hg1).trans hcs1
                have hrl2 := cell_later hbA r3
                clear r0 r1 r2 r3 r4 fbi HI hcs1 hfz HEx
                have hgn : g1 ≠ wr.heap.size := by omega
                generalize wr.alloc (.cells #[.int .i64 pos, .int .i64 kd, .string nm, .int .i64 fr, .int .i64 ad] 76) = X2 at *
                generalize wr.heap.size = nr at *
                have hgf : g1 ≠ nf := fun e => by
                  rw [e, fb2] at gc2
                  cases gc2
                have hlg : g1 < X2.heap.size := (Array.getElem?_eq_some_iff.1 gc2).1
                have z5 : X2.cell? ⟨nf, 5, none⟩ = some (.slice (some ⟨g1, 0, none⟩) rs.length yr) := cellB fb2 5
                have z3 : X2.cell? ⟨nr, 3, none⟩ = some (.int .i64 fr) := cellB nb 3
                have hfz2 : X2.frozen? ⟨g1, j * 5 + 3, none⟩ = false := frozenB gc2 _
                have hwr : IntKind.wrap .i64 (fr + n) = fr + n := by unfold IntKind.wrap; simp [IntKind.signed, IntKind.bits]; omega
                have HI3 := HX2.out.setRel (g := g1) (cap := yr) (k := j) (by rw [sh_len n ⟨⟨s, al, g, bs, sz, rs⟩, .slice xb bs.length yb, .slice (some ⟨g1, 0, none⟩) rs.length yr⟩ j hj]; rfl) (by rw [sh_len n ⟨⟨s, al, g, bs, sz, rs⟩, .slice xb bs.length yb, .slice (some ⟨g1, 0, none⟩) rs.length yr⟩ j hj]; exact hjt) (fr + n)
                have HI4 : Hid _ := HI3
                have Hfb3 : Hid _ := (Below.heap_setCell X2 ⟨g1, j * 5 + 3, none⟩ (.int .i64 (fr + n)) nf (fun e => hgf e.symm)).trans fb2
                clear HI3 gc2 nb HX2 fb2
                go_wp2
                go_roundw
                case rel => exact ⟨j + 1, by omega, by go_num, by rw [← HB2.out]; exact HI4.out, Hfb3.out⟩
                case measure => simp [intOf]; omega
              · have hfn : (fr != -1) = false := by simp [bne, hfr]
                have HN2 : Hid _ := HN.out (by rw [hb, hfr]; rfl)
                clear hb HBr HN fbi hcs1 hfz hFr hfr
                go_wp2
                go_roundw
                case rel => exact ⟨j + 1, by omega, by go_num, by rw [HN2.out]; exact (HEx.out _).1, (HEx.out _).2⟩
                case measure => simp [intOf]; omega
          · have hjl : j = rs.length := by omega
            subst hjl
            obtain ⟨aV, cV, rfl⟩ := own_len HI.out.pr.rowF
            have o0 : wr.cell? ⟨q6, 0, none⟩ = some (.slice aV es.length cV) := cellB HI.out.vars.b6 0
            have hl6 : q6 < wr.heap.size := (Array.getElem?_eq_some_iff.1 HI.out.vars.b6).1
            have q0 : wr.cell? ⟨nf, 0, none⟩ = some (.int .i64 s) := cellB fbi 0
            have q1 : wr.cell? ⟨nf, 1, none⟩ = some (.int .i64 al) := cellB fbi 1
            have q2 : wr.cell? ⟨nf, 2, none⟩ = some (.string g) := cellB fbi 2
            have q3 : wr.cell? ⟨nf, 3, none⟩ = some (.slice xb bs.length yb) := cellB fbi 3
            have q4 : wr.cell? ⟨nf, 4, none⟩ = some (.int .i64 sz) := cellB fbi 4
            have q5 : wr.cell? ⟨nf, 5, none⟩ = some (.slice xr rs.length yr) := cellB fbi 5
            have hAl : Below wr.heap.size wr (wr.alloc (.cells #[.int .i64 s, .int .i64 al, .string g, .slice xb bs.length yb, .int .i64 sz, .slice xr rs.length yr] 29)) := (Below.refl _ _).alloc (Nat.le_refl _) _
            have hA := HI.out.later hAl
            have hrowA := hA.pr.rowF
            have htop : w.heap.size ≤ (wr.alloc (.cells #[.int .i64 s, .int .i64 al, .string g, .slice xb bs.length yb, .int .i64 sz, .slice xr rs.length yr] 29)).heap.size := hA.vars.below.size
            have hnews : ∀ j u, (#[.int .i64 s, .int .i64 al, .string g, .slice xb bs.length yb, .int .i64 sz, .slice xr rs.length yr] : Array Value).toList[j]? = some u → (wr.alloc (.cells #[.int .i64 s, .int .i64 al, .string g, .slice xb bs.length yb, .int .i64 sz, .slice xr rs.length yr] 29)).cell? ((⟨wr.heap.size, 0, none⟩ : Addr).add j) = some u := World.news_of_block (heap_alloc_new wr _)
            have HEnd : Hid (∀ v' w5, (wr.alloc (.cells #[.int .i64 s, .int .i64 al, .string g, .slice xb bs.length yb, .int .i64 sz, .slice xr rs.length yr] 29)).grownBy w5 (Value.slice aV es.length cV).ownBlock → w5.ownsRow w.heap.size 29 6 v' (es.length + 1) (es.flatMap entCells ++ (#[.int .i64 s, .int .i64 al, .string g, .slice xb bs.length yb, .int .i64 sz, .slice xr rs.length yr] : Array Value).toList) → (v'.ownBlock = (Value.slice aV es.length cV).ownBlock ∨ v'.ownBlock = some (wr.alloc (.cells #[.int .i64 s, .int .i64 al, .string g, .slice xb bs.length yb, .int .i64 sz, .slice xr rs.length yr] 29)).heap.size) → JFr w (w5.setCell ⟨q6, 0, none⟩ v') q6 q8 eC (es ++ [shE n ⟨⟨s, al, g, bs, sz, rs⟩, .slice xb bs.length yb, .slice xr rs.length yr⟩ rs.length]) rest a.defs db.defs v' (.slice xD a.defs.length yD) (.slice (some ⟨g0, 0, none⟩) eC.length yC) (.slice xE db.defs.length yE)) := fun v' w5 hg5 ho5 hat => hA.add hg5 ho5 hat
            have HQ4 : Hid (∀ w5, (wr.alloc (.cells #[.int .i64 s, .int .i64 al, .string g, .slice xb bs.length yb, .int .i64 sz, .slice xr rs.length yr] 29)).grownBy w5 (Value.slice aV es.length cV).ownBlock → w5.heap[q6]? = some (.cells #[.slice aV es.length cV, .slice xD a.defs.length yD] 25 (0, 0))) := fun w5 hg5 => block_kept hA.pr.rowF hg5 hA.vars.b6 (by decide)
            have HF2 : Hid ((shE n ⟨⟨s, al, g, bs, sz, rs⟩, .slice xb bs.length yb, .slice xr rs.length yr⟩ rs.length).f = M.shiftFrg n ⟨s, al, g, bs, sz, rs⟩) := sh_all n ⟨⟨s, al, g, bs, sz, rs⟩, .slice xb bs.length yb, .slice xr rs.length yr⟩
            clear HI hA hAl fbi
            go_wp2_with (at_builtin; refine wpList_append_own_at _ rfl _ _ 22 rfl w.heap.size 29 i2 (.agg #[.int .i64 0, .int .i64 0, .string ⟨#[]⟩, .slice none 0 0, .int .i64 0, .slice none 0 0]) 6 88 Tryd.underlying22 hi2 hx0 hx1 hx2 rfl (by decide) _ _ _ rfl hrowA ⟨wr.heap.size, 0, none⟩ 1 1 (#[.int .i64 s, .int .i64 al, .string g, .slice xb bs.length yb, .int .i64 sz, .slice xr rs.length yr] : Array Value).toList rfl rfl hnews (fun u hu => by simp at hu; rcases hu with rfl | rfl | rfl | rfl | rfl | rfl <;> rfl) (by unfold maxLen; omega) (by omega) htop ?_; intro v5 w5 ho5 hg5 hn5 hat5; obtain ⟨a5, c5, rfl⟩ := own_len ho5; have hq5 := HQ4.out w5 hg5; have HAt5 : Hid _ := hat5; clear hat5; have m0 : w5.cell? ⟨q6, 0, none⟩ = some (.slice aV es.length cV) := cellB hq5 0; have mz0 : w5.frozen? ⟨q6, 0, none⟩ = false := frozenB hq5 0)
            have HFin := HEnd.out _ _ hg5 ho5 HAt5.out
            go_roundw
            case rel => exact ⟨k + 1, es ++ [shE n ⟨⟨s, al, g, bs, sz, rs⟩, .slice xb bs.length yb, .slice xr rs.length yr⟩ rs.length], _, by omega, by go_num, by rw [Hid, List.map_append, HE1.out]; show _ ++ [(shE n ⟨⟨s, al, g, bs, sz, rs⟩, .slice xb bs.length yb, .slice xr rs.length yr⟩ rs.length).f] = _; rw [HF2.out], by rw [List.length_append]; simp; omega, by rw [HRest.out]; exact HFin⟩
            case measure => simp [intOf]; omega
      · have hkl : k = eC.length := by omega
        have HFr : Hid (es.map (·.f) = (M.plus a (M.shift n db)).frags) := by
          rw [Hid, HE.out, hkl, List.take_length]
          show _ = a.frags ++ db.frags.map (M.shiftFrg n)
          rw [← HEC.out, List.map_map]; rfl
        have HV0 : Hid (JFr w wr q6 q8 eC es [] a.defs db.defs vF (.slice xD a.defs.length yD) (.slice xC eC.length yC) (.slice xE db.defs.length yE)) := by
          have h := HD.out
          rw [hkl, List.drop_length] at h
          exact h
        have hel : es.length ≤ 120 := by omega
        have k81 : wr.cell? ⟨q8, 1, none⟩ = some (.slice xE db.defs.length yE) := cellB HV0.out.vars.b8 1
        clear HE HD hek
        subst hkl
        obtain ⟨aF, cF, rfl⟩ := own_len HV0.out.pr.rowF
        go_upto_region 16 with fail
        clear k81
        go_loopw [67] (fun s67 wr => ∃ (k : Nat) (gs : List M.Dfn) (vD : Value), k ≤ db.defs.length ∧ s67 = .int .i64 k ∧ Hid (gs = a.defs ++ (db.defs.take k).map (M.shiftDfn n)) ∧ gs.length ≤ 60 + k ∧ Hid (JFr w wr q6 q8 eC es [] gs db.defs (.slice aF es.length cF) vD (.slice xC eC.length yC) (.slice xE db.defs.length yE))) (fun s67 _ => db.defs.length - (intOf s67).toNat)
        case atStart => exact ⟨0, a.defs, _, Nat.zero_le _, rfl, by simp [Hid], by omega, HV0.out⟩
        case round =>
          obtain ⟨k, gs, vD, hk, rfl, HM, hgk, HP⟩ := hrel
          clear HV0
          obtain ⟨aV, cV, rfl⟩ := own_len HP.out.pr.rowD
          by_cases hlt : k < db.defs.length
          · obtain ⟨g0, y0, hgv, hcl⟩ := row_cellsD HP.out.srcD k hlt
            cases hgv
            have HM1 : Hid (a.defs ++ (db.defs.take (k + 1)).map (M.shiftDfn n) = gs ++ [M.shiftDfn n (db.defs.getD k dfn0)]) := by
              rw [Hid, map_take_succ _ dfn0 _ _ hlt, HM.out, List.append_assoc]
            have hst := HStC.out _ (getD_mem db.defs dfn0 k hlt)
            have hnm := HP.out.smallC _ (getD_mem db.defs dfn0 k hlt)
            have e0 := hcl 0 (by decide)
            have e1 := hcl 1 (by decide)
            have e2 := hcl 2 (by decide)
            have e3 := hcl 3 (by decide)
            have e4 := hcl 4 (by decide)
            have e5 := hcl 5 (by decide)
            clear hcl HM
            generalize db.defs.getD k dfn0 = d at *
            obtain ⟨nm, kd, fg, pos, sz, al⟩ := d
            simp only [encDfn, List.getD_cons_zero, List.getD_cons_succ, Nat.zero_add, Nat.add_zero] at e0 e1 e2 e3 e4 e5 hnm hst
            have hkl : (k : Int) < (db.defs.length : Int) := by omega
            have hbr : g0 < wr.heap.size := World.block_lt_of_cell? _ _ e0
            have hwd : w.heap.size ≤ wr.heap.size := HP.out.vars.below.size
            have hbA : Below wr.heap.size wr (wr.alloc (.cells #[.string nm, .int .i64 kd, .int .i64 fg, .int .i64 pos, .int .i64 sz, .int .i64 al] 53)) := (Below.refl _ _).alloc (Nat.le_refl _) _
            have nb := heap_alloc_new wr (.cells #[.string nm, .int .i64 kd, .int .i64 fg, .int .i64 pos, .int .i64 sz, .int .i64 al] 53)
            have HX : Hid _ := HP.out.later hbA
            have HL1 : Hid (∀ g, (Value.slice aV gs.length cV).ownBlock = some g → g < wr.heap.size) := fun g hg => (HP.out.pr.rowD.lt g hg).2
            have HL2 : Hid (∀ g, (Value.slice (some ⟨g0, 0, none⟩) db.defs.length yE).ownBlock = some g → g < wr.heap.size) := fun g hg => (HP.out.srcD.lt g hg).2
            have HNb : Hid _ := nb
            clear HP hbA nb
            cases hk3 : (kd == 3)
            · have hkn : (kd != 3) = true := by simp [bne, hk3]
              obtain ⟨hf0, hf1⟩ := hst hk3
              have hmv : M.shiftDfn n ⟨nm, kd, fg, pos, sz, al⟩ = ⟨nm, kd, fg + n, pos, sz, al⟩ := by unfold M.shiftDfn; rw [hk3]; rfl
              rw [hmv] at HM1
              have hwr : IntKind.wrap .i64 (fg + n) = fg + n := by unfold IntKind.wrap; simp [IntKind.signed, IntKind.bits]; omega
              clear hmv hst hk3
              go_upto_region 19 with fail
              clear e0 e1 e2 e3 e4 e5
              have HNb' : Hid (∃ Z, Z = wr.alloc (.cells #[.string nm, .int .i64 kd, .int .i64 fg, .int .i64 pos, .int .i64 sz, .int .i64 al] 53)) := ⟨_, rfl⟩
              generalize wr.alloc (.cells #[.string nm, .int .i64 kd, .int .i64 fg, .int .i64 pos, .int .i64 sz, .int .i64 al] 53) = X2 at *
              clear HNb'
              generalize wr.heap.size = nd at *
              have y2 : X2.cell? ⟨nd, 2, none⟩ = some (.int .i64 fg) := cellB HNb.out 2
              have yz2 : X2.frozen? ⟨nd, 2, none⟩ = false := frozenB HNb.out 2
              go_upto_region 20 with fail
              have HZ : Hid (JFr w (X2.setCell ⟨nd, 2, none⟩ (.int .i64 (fg + n))) q6 q8 eC es [] gs db.defs (.slice aF es.length cF) (.slice aV gs.length cV) (.slice xC eC.length yC) (.slice (some ⟨g0, 0, none⟩) db.defs.length yE)) := HX.out.set_def HNb.out hwd HL1.out HL2.out
              have nbZ : (X2.setCell ⟨nd, 2, none⟩ (.int .i64 (fg + n))).heap[nd]? = some (.cells #[.string nm, .int .i64 kd, .int .i64 (fg + n), .int .i64 pos, .int .i64 sz, .int .i64 al] 53 (0, 0)) := setB' HNb.out _
              clear HX HNb y2 yz2
              generalize X2.setCell ⟨nd, 2, none⟩ (.int .i64 (fg + n)) = Z at *
              generalize fg + n = fx at *
              have hldZ : nd < Z.heap.size := (Array.getElem?_eq_some_iff.1 nbZ).1
              have z0 : Z.cell? ⟨nd, 0, none⟩ = some (.string nm) := cellB nbZ 0
              have z1 : Z.cell? ⟨nd, 1, none⟩ = some (.int .i64 kd) := cellB nbZ 1
              have z2 : Z.cell? ⟨nd, 2, none⟩ = some (.int .i64 fx) := cellB nbZ 2
              have z3 : Z.cell? ⟨nd, 3, none⟩ = some (.int .i64 pos) := cellB nbZ 3
              have z4 : Z.cell? ⟨nd, 4, none⟩ = some (.int .i64 sz) := cellB nbZ 4
              have z5 : Z.cell? ⟨nd, 5, none⟩ = some (.int .i64 al) := cellB nbZ 5
              clear nbZ
              have hAl : Below Z.heap.size Z (Z.alloc (.cells #[.string nm, .int .i64 kd, .int .i64 fx, .int .i64 pos, .int .i64 sz, .int .i64 al] 53)) := (Below.refl _ _).alloc (Nat.le_refl _) _
              have hrowA := (HZ.out.later hAl).pr.rowD
              have hnews : ∀ j u, (#[.string nm, .int .i64 kd, .int .i64 fx, .int .i64 pos, .int .i64 sz, .int .i64 al] : Array Value).toList[j]? = some u → (Z.alloc (.cells #[.string nm, .int .i64 kd, .int .i64 fx, .int .i64 pos, .int .i64 sz, .int .i64 al] 53)).cell? ((⟨Z.heap.size, 0, none⟩ : Addr).add j) = some u := World.news_of_block (heap_alloc_new Z _)
              have HEnd : Hid (∀ v' w5, (Z.alloc (.cells #[.string nm, .int .i64 kd, .int .i64 fx, .int .i64 pos, .int .i64 sz, .int .i64 al] 53)).grownBy w5 (Value.slice aV gs.length cV).ownBlock → w5.ownsRow w.heap.size 53 6 v' (gs.length + 1) (gs.flatMap encDfn ++ (#[.string nm, .int .i64 kd, .int .i64 fx, .int .i64 pos, .int .i64 sz, .int .i64 al] : Array Value).toList) → (v'.ownBlock = (Value.slice aV gs.length cV).ownBlock ∨ v'.ownBlock = some (Z.alloc (.cells #[.string nm, .int .i64 kd, .int .i64 fx, .int .i64 pos, .int .i64 sz, .int .i64 al] 53)).heap.size) → JFr w (w5.setCell ⟨q6, 1, none⟩ v') q6 q8 eC es [] (gs ++ [⟨nm, kd, fx, pos, sz, al⟩]) db.defs (.slice aF es.length cF) v' (.slice xC eC.length yC) (.slice (some ⟨g0, 0, none⟩) db.defs.length yE)) := fun v' w5 hg5 ho5 hat => (HZ.out.later hAl).addD (d := ⟨nm, kd, fx, pos, sz, al⟩) hg5 ho5 hat hnm
              have HQ4 : Hid (∀ w5, (Z.alloc (.cells #[.string nm, .int .i64 kd, .int .i64 fx, .int .i64 pos, .int .i64 sz, .int .i64 al] 53)).grownBy w5 (Value.slice aV gs.length cV).ownBlock → w5.heap[q6]? = some (.cells #[.slice aF es.length cF, .slice aV gs.length cV] 25 (0, 0))) := fun w5 hg5 => block_kept (HZ.out.later hAl).pr.rowD hg5 (HZ.out.later hAl).vars.b6 (by decide)
              have o1 : Z.cell? ⟨q6, 1, none⟩ = some (.slice aV gs.length cV) := cellB HZ.out.vars.b6 1
              have hl6 : q6 < Z.heap.size := (Array.getElem?_eq_some_iff.1 HZ.out.vars.b6).1
              have hwW : w.heap.size ≤ Z.heap.size := HZ.out.vars.below.size
              clear hAl HZ
              go_wp2_with (at_builtin; refine wpList_append_own_at _ rfl _ _ 23 rfl w.heap.size 53 i3 (.agg #[.string ⟨#[]⟩, .int .i64 0, .int .i64 0, .int .i64 0, .int .i64 0, .int .i64 0]) 6 56 Tryd.underlying23 hi3 hu0 hu1 hu2 rfl (by decide) _ _ _ rfl hrowA ⟨Z.heap.size, 0, none⟩ 1 1 (#[.string nm, .int .i64 kd, .int .i64 fx, .int .i64 pos, .int .i64 sz, .int .i64 al] : Array Value).toList rfl rfl hnews (fun u hu => by simp at hu; rcases hu with rfl | rfl | rfl | rfl | rfl | rfl <;> rfl) (by unfold maxLen; omega) (by omega) (by simp; omega) ?_; intro v5 w5 ho5 hg5 hn5 hat5; obtain ⟨a5, c5, rfl⟩ := own_len ho5; have hq5 := HQ4.out w5 hg5; have HAt5 : Hid _ := hat5; clear hat5; have m1 : w5.cell? ⟨q6, 1, none⟩ = some (.slice aV gs.length cV) := cellB hq5 1; have mz1 : w5.frozen? ⟨q6, 1, none⟩ = false := frozenB hq5 1)
              have HFin : Hid _ := HEnd.out _ _ hg5 ho5 HAt5.out
              go_roundw
              case rel => exact ⟨k + 1, gs ++ [⟨nm, kd, fx, pos, sz, al⟩], _, by omega, by go_num, by rw [Hid, HM1.out], by rw [List.length_append]; simp; omega, HFin⟩
              case measure => simp [intOf]; omega
            · have hkn : (kd != 3) = false := by simp [bne, hk3]
              have hmv : M.shiftDfn n ⟨nm, kd, fg, pos, sz, al⟩ = ⟨nm, kd, fg, pos, sz, al⟩ := by unfold M.shiftDfn; rw [hk3]; rfl
              rw [hmv] at HM1
              clear hmv hst hk3
              go_upto_region 20 with fail
              clear e0 e1 e2 e3 e4 e5
              have nbZ := HNb.out
              clear HNb
              have HZ : Hid (JFr w (wr.alloc (.cells #[.string nm, .int .i64 kd, .int .i64 fg, .int .i64 pos, .int .i64 sz, .int .i64 al] 53)) q6 q8 eC es [] gs db.defs (.slice aF es.length cF) (.slice aV gs.length cV) (.slice xC eC.length yC) (.slice (some ⟨g0, 0, none⟩) db.defs.length yE)) := HX.out
              clear HX
              generalize wr.alloc (.cells #[.string nm, .int .i64 kd, .int .i64 fg, .int .i64 pos, .int .i64 sz, .int .i64 al] 53) = Z at *
              generalize wr.heap.size = nd at *
              generalize hfx : fg = fx at *
              clear hfx
              have hldZ : nd < Z.heap.size := (Array.getElem?_eq_some_iff.1 nbZ).1
              have z0 : Z.cell? ⟨nd, 0, none⟩ = some (.string nm) := cellB nbZ 0
              have z1 : Z.cell? ⟨nd, 1, none⟩ = some (.int .i64 kd) := cellB nbZ 1
              have z2 : Z.cell? ⟨nd, 2, none⟩ = some (.int .i64 fx) := cellB nbZ 2
              have z3 : Z.cell? ⟨nd, 3, none⟩ = some (.int .i64 pos) := cellB nbZ 3
              have z4 : Z.cell? ⟨nd, 4, none⟩ = some (.int .i64 sz) := cellB nbZ 4
              have z5 : Z.cell? ⟨nd, 5, none⟩ = some (.int .i64 al) := cellB nbZ 5
              clear nbZ
              have hAl : Below Z.heap.size Z (Z.alloc (.cells #[.string nm, .int .i64 kd, .int .i64 fx, .int .i64 pos, .int .i64 sz, .int .i64 al] 53)) := (Below.refl _ _).alloc (Nat.le_refl _) _
              have hrowA := (HZ.out.later hAl).pr.rowD
              have hnews : ∀ j u, (#[.string nm, .int .i64 kd, .int .i64 fx, .int .i64 pos, .int .i64 sz, .int .i64 al] : Array Value).toList[j]? = some u → (Z.alloc (.cells #[.string nm, .int .i64 kd, .int .i64 fx, .int .i64 pos, .int .i64 sz, .int .i64 al] 53)).cell? ((⟨Z.heap.size, 0, none⟩ : Addr).add j) = some u := World.news_of_block (heap_alloc_new Z _)
              have HEnd : Hid (∀ v' w5, (Z.alloc (.cells #[.string nm, .int .i64 kd, .int .i64 fx, .int .i64 pos, .int .i64 sz, .int .i64 al] 53)).grownBy w5 (Value.slice aV gs.length cV).ownBlock → w5.ownsRow w.heap.size 53 6 v' (gs.length + 1) (gs.flatMap encDfn ++ (#[.string nm, .int .i64 kd, .int .i64 fx, .int .i64 pos, .int .i64 sz, .int .i64 al] : Array Value).toList) → (v'.ownBlock = (Value.slice aV gs.length cV).ownBlock ∨ v'.ownBlock = some (Z.alloc (.cells #[.string nm, .int .i64 kd, .int .i64 fx, .int .i64 pos, .int .i64 sz, .int .i64 al] 53)).heap.size) → JFr w (w5.setCell ⟨q6, 1, none⟩ v') q6 q8 eC es [] (gs ++ [⟨nm, kd, fx, pos, sz, al⟩]) db.defs (.slice aF es.length cF) v' (.slice xC eC.length yC) (.slice (some ⟨g0, 0, none⟩) db.defs.length yE)) := fun v' w5 hg5 ho5 hat => (HZ.out.later hAl).addD (d := ⟨nm, kd, fx, pos, sz, al⟩) hg5 ho5 hat hnm
              have HQ4 : Hid (∀ w5, (Z.alloc (.cells #[.string nm, .int .i64 kd, .int .i64 fx, .int .i64 pos, .int .i64 sz, .int .i64 al] 53)).grownBy w5 (Value.slice aV gs.length cV).ownBlock → w5.heap[q6]? = some (.cells #[.slice aF es.length cF, .slice aV gs.length cV] 25 (0, 0))) := fun w5 hg5 => block_kept (HZ.out.later hAl).pr.rowD hg5 (HZ.out.later hAl).vars.b6 (by decide)
              have o1 : Z.cell? ⟨q6, 1, none⟩ = some (.slice aV gs.length cV) := cellB HZ.out.vars.b6 1
              have hl6 : q6 < Z.heap.size := (Array.getElem?_eq_some_iff.1 HZ.out.vars.b6).1
              have hwW : w.heap.size ≤ Z.heap.size := HZ.out.vars.below.size
              clear hAl HZ
              go_wp2_with (at_builtin; refine wpList_append_own_at _ rfl _ _ 23 rfl w.heap.size 53 i3 (.agg #[.string ⟨#[]⟩, .int .i64 0, .int .i64 0, .int .i64 0, .int .i64 0, .int .i64 0]) 6 56 Tryd.underlying23 hi3 hu0 hu1 hu2 rfl (by decide) _ _ _ rfl hrowA ⟨Z.heap.size, 0, none⟩ 1 1 (#[.string nm, .int .i64 kd, .int .i64 fx, .int .i64 pos, .int .i64 sz, .int .i64 al] : Array Value).toList rfl rfl hnews (fun u hu => by simp at hu; rcases hu with rfl | rfl | rfl | rfl | rfl | rfl <;> rfl) (by unfold maxLen; omega) (by omega) (by simp; omega) ?_; intro v5 w5 ho5 hg5 hn5 hat5; obtain ⟨a5, c5, rfl⟩ := own_len ho5; have hq5 := HQ4.out w5 hg5; have HAt5 : Hid _ := hat5; clear hat5; have m1 : w5.cell? ⟨q6, 1, none⟩ = some (.slice aV gs.length cV) := cellB hq5 1; have mz1 : w5.frozen? ⟨q6, 1, none⟩ = false := frozenB hq5 1)
              have HFin : Hid _ := HEnd.out _ _ hg5 ho5 HAt5.out
              go_roundw
              case rel => exact ⟨k + 1, gs ++ [⟨nm, kd, fx, pos, sz, al⟩], _, by omega, by go_num, by rw [Hid, HM1.out], by rw [List.length_append]; simp; omega, HFin⟩
              case measure => simp [intOf]; omega
          · have hkl : k = db.defs.length := by omega
            subst hkl
            have HDf : Hid (gs = (M.plus a (M.shift n db)).defs) := by
              rw [Hid, HM.out, List.take_length]; rfl
            have k60 : wr.cell? ⟨q6, 0, none⟩ = some (.slice aF es.length cF) := cellB HP.out.vars.b6 0
            have k61 : wr.cell? ⟨q6, 1, none⟩ = some (.slice aV gs.length cV) := cellB HP.out.vars.b6 1
            have hb2 := HP.out.vars.b2
            have r0 : wr.cell? ⟨w.heap.size + 1 + 1, 0, none⟩ = some (.slice none 0 0) := cellB hb2 0
            have r1 : wr.cell? ⟨w.heap.size + 1 + 1, 1, none⟩ = some (.slice none 0 0) := cellB hb2 1
            have rz0 : wr.frozen? ⟨w.heap.size + 1 + 1, 0, none⟩ = false := frozenB hb2 0
            have rz1 : wr.frozen? ⟨w.heap.size + 1 + 1, 1, none⟩ = false := frozenB hb2 1
            have hl2 : w.heap.size + 1 + 1 < wr.heap.size := (Array.getElem?_eq_some_iff.1 hb2).1
            have hlo6 := HP.out.vars.lo6
            have HBl : Hid (∀ u v, Below w.heap.size w ((wr.setCell ⟨w.heap.size + 1 + 1, 0, none⟩ u).setCell ⟨w.heap.size + 1 + 1, 1, none⟩ v)) := fun u v => (HP.out.vars.below.setCell (by show w.heap.size ≤ w.heap.size + 1 + 1; omega) _).setCell (by show w.heap.size ≤ w.heap.size + 1 + 1; omega) _
            have HPr : Hid (∀ u v, PR ((wr.setCell ⟨w.heap.size + 1 + 1, 0, none⟩ u).setCell ⟨w.heap.size + 1 + 1, 1, none⟩ v) w.heap.size es gs (.slice aF es.length cF) (.slice aV gs.length cV)) := fun u v => (HP.out.pr.set hb2).set (setB' hb2 u)
            have HFl : Hid (M.full (M.plus a (M.shift n db)) = (decide (60 < es.length) || decide (60 < gs.length))) := by
              rw [Hid]; unfold M.full
              rw [← HFr.out, ← HDf.out, List.length_map]
            have HJn2 : Hid (M.join a b = bif (decide (60 < es.length) || decide (60 < gs.length)) then (M.nil, 10) else (M.plus a (M.shift n db), 0)) := by rw [Hid, ← HFl.out]; exact HJn.out
            clear HP hb2 HFl HJn HM
            by_cases hc : 60 < es.length
            · have h1 : decide (60 < (es.length : Int)) = true := by simp; omega
              have HJ3 : Hid (M.join a b = (M.nil, 10)) := by rw [Hid, HJn2.out]; simp [hc]
              clear HJn2 hc
              go_wp2
              refine bodyPost_ret (v := .tuple #[.agg #[.slice none 0 0, .slice none 0 0], .int .i64 10]) (by simp [results, Tryd.results27, go_sem, r0, r1]) rfl ?_
              exact ⟨HBl.out _ _, [], _, _, by rw [HJ3.out], by rw [HJ3.out]; exact PR.nil _ _, by rw [HJ3.out]; rfl⟩
            · have h1 : decide (60 < (es.length : Int)) = false := by simp; omega
              by_cases hc2 : 60 < gs.length
              · have h2 : decide (60 < (gs.length : Int)) = true := by simp; omega
                have HJ3 : Hid (M.join a b = (M.nil, 10)) := by rw [Hid, HJn2.out]; simp [hc2]
                clear HJn2 hc hc2
                go_wp2
                refine bodyPost_ret (v := .tuple #[.agg #[.slice none 0 0, .slice none 0 0], .int .i64 10]) (by simp [results, Tryd.results27, go_sem, r0, r1]) rfl ?_
                exact ⟨HBl.out _ _, [], _, _, by rw [HJ3.out], by rw [HJ3.out]; exact PR.nil _ _, by rw [HJ3.out]; rfl⟩
              · have h2 : decide (60 < (gs.length : Int)) = false := by simp; omega
                have HJ3 : Hid (M.join a b = (M.plus a (M.shift n db), 0)) := by rw [Hid, HJn2.out]; simp [hc, hc2]
                clear HJn2 hc hc2
                go_wp2
                refine bodyPost_ret (v := .tuple #[.agg #[.slice aF es.length cF, .slice aV gs.length cV], .int .i64 0]) (by simp [results, Tryd.results27, go_sem, r0, r1]) rfl ?_
                exact ⟨HBl.out _ _, es, _, _, by rw [HJ3.out], by rw [HJ3.out, ← HDf.out]; exact HPr.out _ _, by rw [HJ3.out]; exact HFr.out⟩

end Go.Proofs.YthbdfnphnppagaaDoor
