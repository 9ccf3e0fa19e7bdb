/-
  The reference: what comes of a right plan of right parts.
-/
import Derived.Test.YthdckapdhcpaoaaGreatDoorPlEva
import Derived.Test.YthdckapdhcpaoaaGreatDoorRefJoined
import Derived.Test.YthdckapdhcpaoaaGreatDoorPlRl
import Derived.Test.YthdckapdhcpaoaaGreatDoorPlMa
import Derived.Deep.RegionHeld3
namespace Go.Proofs.YthdckapdhcpaoaaGreatDoor
open Go Go.RowKit
set_option linter.unusedVariables false

/-- the reference's rows: each part is one that came, or one of its own -/
structure EvR (w W : World) (v : Value) (es : List PEnt) : Prop where
  below : Below w.heap.size w W
  row : W.ownsRow w.heap.size 44 2 v es.length (es.flatMap pentCells)
  parts : ∀ e ∈ es, POwn W w.heap.size e ∨ ∀ X, Below w.heap.size w X → FragsAt X e.vF e.p.frags ∧ DefsAt X e.vD e.p.defs

theorem EvR.later {w W X : World} {v : Value} {es : List PEnt} (h : EvR w W v es) (hb : Below W.heap.size W X) : EvR w X v es :=
  ⟨h.below.trans (hb.mono h.below.size), h.row.kept (grown_of_below hb none) own_self, fun e he => (h.parts e he).imp (fun ⟨en, h1, h2⟩ => ⟨en, h1.later hb, h2⟩) id⟩
theorem EvR.push {w W X : World} {v v' : Value} {es : List PEnt} {e : PEnt} (h : EvR w W v es) (he : POwn W w.heap.size e ∨ ∀ X, Below w.heap.size w X → FragsAt X e.vF e.p.frags ∧ DefsAt X e.vD e.p.defs) (hg : W.grownBy X v.ownBlock) (hr : X.ownsRow w.heap.size 44 2 v' (es.length + 1) (es.flatMap pentCells ++ pentCells e)) : EvR w X v' (es ++ [e]) := by
  refine ⟨h.below.grown hg h.below.size (fun k hk => (h.row.lt k hk).1), ?_, fun x hx => ?_⟩
  · rw [List.length_append, List.flatMap_append]
    simpa [List.flatMap_cons] using hr
  · have hx' : POwn W w.heap.size x ∨ ∀ X, Below w.heap.size w X → FragsAt X x.vF x.p.frags ∧ DefsAt X x.vD x.p.defs := by
      rcases List.mem_append.1 hx with hx | hx
      · exact h.parts x hx
      · rw [List.mem_singleton.1 hx]; exact he
    exact hx'.imp (fun ⟨en, h1, h2⟩ => ⟨en, h1.keptR h.row hg, h2⟩) id
theorem EvR.at {w W : World} {v : Value} {es : List PEnt} (h : EvR w W v es) {e : PEnt} (he : e ∈ es) : FragsAt W e.vF e.p.frags ∧ DefsAt W e.vD e.p.defs := by
  rcases h.parts e he with ⟨en, h1, h2⟩ | h1
  · have hF := h1.fragsAt
    rw [h2] at hF
    exact ⟨hF, h1.defsAt⟩
  · exact h1 W h.below
theorem EvR.partsAt {w W : World} {v : Value} {es : List PEnt} (h : EvR w W v es) : ∃ a c, v = .slice a es.length c ∧ PartsAt W (.slice a es.length c) (es.map (·.p)) := by
  obtain ⟨a, c, rfl⟩ := own_len h.row
  refine ⟨a, c, rfl, fun j i => (pentCells (es.getD j pent0)).getD i undef, ?_, fun j hj => ?_⟩
  · rw [List.length_map]
    exact row_slice (k := 2) pent0 pentCells (fun _ => rfl) es h.row
  · rw [List.length_map] at hj
    obtain ⟨hF, hD⟩ := h.at (getD_mem es pent0 j hj)
    have e3 : (es.map (·.p)).getD j M.nil = (es.getD j pent0).p := by
      rw [List.getD_eq_getElem?_getD, List.getD_eq_getElem?_getD, List.getElem?_map, List.getElem?_eq_getElem hj]; rfl
    rw [e3]
    exact ⟨hF, hD⟩
theorem EvR.cells {w W : World} {ad : Option Addr} {cc : Nat} {es : List PEnt} (h : EvR w W (.slice ad es.length cc) es) (k : Nat) (hk : k < es.length) :
    ∃ b off a1 c1 a2 c2, ad = some ⟨b, off, none⟩ ∧ W.cell? ⟨b, off + k * 2, none⟩ = some (.slice a1 (es.getD k pent0).p.frags.length c1) ∧ W.cell? ⟨b, off + k * 2 + 1, none⟩ = some (.slice a2 (es.getD k pent0).p.defs.length c2)
      ∧ FragsAt W (.slice a1 (es.getD k pent0).p.frags.length c1) (es.getD k pent0).p.frags ∧ DefsAt W (.slice a2 (es.getD k pent0).p.defs.length c2) (es.getD k pent0).p.defs := by
  obtain ⟨hF, hD⟩ := h.at (getD_mem es pent0 k hk)
  obtain ⟨a1, c1, e1⟩ := hF.form
  obtain ⟨a2, c2, e2⟩ := hD.form
  obtain ⟨b, off, rfl, hc⟩ := (row_slice (k := 2) pent0 pentCells (fun _ => rfl) es h.row).at k hk
  have g0 := hc 0 (by decide)
  have g1 := hc 1 (by decide)
  refine ⟨b, off, a1, c1, a2, c2, rfl, ?_, ?_, e1 ▸ hF, e2 ▸ hD⟩
  · rw [Nat.add_zero] at g0; rw [g0]; exact congrArg some e1
  · rw [g1]; exact congrArg some e2

set_option maxHeartbeats 16000000 in
set_option maxRecDepth 100000 in
theorem evaluated_any (l : List M.Nd) (parts : List M.Prt) (a a' : Option Addr) (c c' : Nat) (w : World) (hn : NodesAt w (.slice a l.length c) l) (hp : PartsAt w (.slice a' parts.length c') parts) (hfit : M.fitsFrom parts.length 0 l = true) (h23 : l.length ≤ 23) (h12 : parts.length ≤ 12) (hok : ∀ p ∈ parts, M.Ok p) :
    Calls Tryz.prog 15 #[.slice a l.length c, .slice a' parts.length c'] w fun e w' => Below w.heap.size w w' ∧ ∃ a c, e = .returned (.tuple #[.slice a (M.evalGo parts [] l).1.length c, .int .i64 (M.evalGo parts [] l).2]) ∧ PartsAt w' (.slice a (M.evalGo parts [] l).1.length c) (M.evalGo parts [] l).1 := by
  obtain ⟨i0, hi0, hz0, hz1, hz2⟩ := info_parts (P := Tryz.prog) (e := 44) (z := .agg #[.slice none 0 0, .slice none 0 0]) (size := 2) (bytes := 48) (by kernel_rfl)
  have hbe := behind_of hfit
  have HX : Hid (M.evalGo parts [] l = M.evalGo parts [] (l.drop 0)) := rfl
  have HFit : Hid (M.fitsFrom parts.length 0 l = true) := hfit
  have HOk : Hid (∀ p ∈ parts, M.Ok p) := hok
  have HNP : Hid (∀ W, Below w.heap.size w W → NodesAt W (.slice a l.length c) l ∧ PartsAt W (.slice a' parts.length c') parts) := fun W hW => ⟨hn.later hW, hp.later hW⟩
  have hlm : l.length ≤ 2 ^ 63 - 1 := by omega
  generalize M.evalGo parts [] l = R at *
  clear hn hp hfit hok
  go_enter Tryz.func15, Tryz.ntmps15
  go_wp2_with fail
  go_loopw [6, 13] (fun s6 s13 wq => ∃ (k : Nat) (es : List PEnt), k ≤ l.length ∧ s13 = .int .i64 k ∧ Hid (es.length = k) ∧ Hid (EvR w wq s6 es) ∧ Hid (∀ e ∈ es, M.Ok e.p) ∧ Hid (R = M.evalGo parts (es.map (·.p)) (l.drop k))) (fun _ s13 _ => l.length - (intOf s13).toNat)
  case atStart => exact ⟨0, [], Nat.zero_le _, rfl, rfl, ⟨Below.refl _ _, World.ownsRow_nil _ _ _ _, fun e he => by cases he⟩, (fun e he => by cases he), HX⟩
  case round =>
    obtain ⟨k, es, hk, rfl, HEl, HI, HOe, HG⟩ := hrel
    have hwI := HI.out.below
    have hw0 : w.heap.size ≤ wr.heap.size := hwI.size
    obtain ⟨ad, nn, cc, rfl⟩ := own_form HI.out.row
    have hnn : nn = es.length := by obtain ⟨_, _, e⟩ := own_len HI.out.row; cases e; rfl
    by_cases hlt : k < l.length
    · obtain ⟨b, off, ha, e0, e1, e2⟩ := (HNP.out wr hwI).1.cells k hlt
      have hbk := hbe k hlt
      have hlf := leaf_of HFit.out hlt
      have HG1 := HG.out
      rw [evalGo_step _ _ _ _ hlt] at HG1
      have hkl : (k : Int) < (l.length : Int) := by omega
      have hbr : b < wr.heap.size := World.block_lt_of_cell? _ _ e0
      subst ha
      generalize l.getD k M.nd0 = n at *
      obtain ⟨x, y, z⟩ := n
      simp only at e0 e1 e2 hbk hlf
      clear HG
      have Hnn : Hid (nn = es.length) := hnn
      have hes : es.length ≤ 23 := by have := HEl.out; omega
      clear hnn
      go_upto_region 5 with fail
      have hA1 : Below wr.heap.size wr (wr.alloc (.cells #[.int .i64 x, .int .i64 y, .int .i64 z] 37)) := (Below.refl _ _).alloc (Nat.le_refl _) _
      have pn := heap_alloc_new wr (.cells #[.int .i64 x, .int .i64 y, .int .i64 z] 37)
      have HIY : Hid (EvR w (wr.alloc (.cells #[.int .i64 x, .int .i64 y, .int .i64 z] 37)) (.slice ad nn cc) es) := HI.out.later hA1
      have HPY := (HNP.out _ (hwI.trans (hA1.mono hw0))).2
      clear e0 e1 e2 hA1 HI hwI
      generalize wr.alloc (.cells #[.int .i64 x, .int .i64 y, .int .i64 z] 37) = Y at *
      generalize wr.heap.size = nb at *
      have ln : nb < Y.heap.size := (Array.getElem?_eq_some_iff.1 pn).1
      have k0 : Y.cell? ⟨nb, 0, none⟩ = some (.int .i64 x) := cellB pn 0
      have hwY : w.heap.size ≤ Y.heap.size := HIY.out.below.size
      cases hx : (x == -1)
      · have hx0 := hlf hx
        obtain ⟨t, rfl⟩ : ∃ t : Nat, x = (t : Int) := ⟨x.toNat, by omega⟩
        have htl : t < parts.length := by omega
        have HLR : M.evalLeft (es.map (·.p)) ⟨(t : Int), y, z⟩ = M.nil ∧ M.evalRight parts (es.map (·.p)) ⟨(t : Int), y, z⟩ = parts.getD t M.nil := ⟨by simp only [M.evalLeft, hx, cond_false], by simp only [M.evalRight, hx, cond_false, Int.toNat_natCast]⟩
        have hok := HOk.out _ (getD_mem parts M.nil t htl)
        rw [HLR.1, HLR.2, M.nil_join hok, if_pos rfl] at HG1
        obtain ⟨cell, hs, hc⟩ := HPY
        obtain ⟨b2, off2, hb2, hce⟩ := hs.at t htl
        obtain ⟨hF', hD'⟩ := hc t htl
        have f0 := hce 0 (by decide)
        have f1 := hce 1 (by decide)
        rw [Nat.add_zero] at f0
        obtain ⟨r1, s1, hx3⟩ := hF'.form
        obtain ⟨r2, s2, hx4⟩ := hD'.form
        rw [hx3] at f0 hF'
        rw [hx4] at f1 hD'
        have HAll : Hid (∀ W, Below w.heap.size w W → FragsAt W (.slice r1 (parts.getD t M.nil).frags.length s1) (parts.getD t M.nil).frags ∧ DefsAt W (.slice r2 (parts.getD t M.nil).defs.length s2) (parts.getD t M.nil).defs) := fun W hW => by
          obtain ⟨cell2, hs2, hc2⟩ := (HNP.out w (Below.refl _ _)).2
          obtain ⟨b3, off3, hb3, hce3⟩ := hs2.at t htl
          obtain ⟨hF3, hD3⟩ := hc2 t htl
          rw [hb2] at hb3
          cases hb3
          have u0 := cell_later HIY.out.below (hce3 0 (by decide))
          have u1 := cell_later HIY.out.below (hce3 1 (by decide))
          rw [Nat.add_zero, f0] at u0
          rw [f1] at u1
          rw [← Option.some.inj u0] at hF3
          rw [← Option.some.inj u1] at hD3
          exact ⟨hF3.later hW, hD3.later hW⟩
        subst hb2
        have lb2 : b2 < Y.heap.size := World.block_lt_of_cell? _ _ f0
        have ht0 : (0 : Int) ≤ (t : Int) := by omega
        have htl' : (t : Int) < (parts.length : Int) := by omega
        clear hs hc hce hx3 hx4 HLR hbk hlf hF' hD' pn
        generalize parts.getD t M.nil = Rt at *
        have HG2 : Hid (R = M.evalGo parts ((es ++ [(⟨Rt, .slice r1 Rt.frags.length s1, .slice r2 Rt.defs.length s2⟩ : PEnt)]).map (·.p)) (l.drop (k + 1))) := by rw [Hid, List.map_append]; exact HG1
        have HEl2 : Hid ((es ++ [(⟨Rt, .slice r1 Rt.frags.length s1, .slice r2 Rt.defs.length s2⟩ : PEnt)]).length = k + 1) := by have := HEl.out; simp [Hid, this]
        have HOe2 : Hid (∀ e ∈ es ++ [(⟨Rt, .slice r1 Rt.frags.length s1, .slice r2 Rt.defs.length s2⟩ : PEnt)], M.Ok e.p) := fun e he => by
          rcases List.mem_append.1 he with h | h
          · exact HOe.out e h
          · rw [List.mem_singleton.1 h]; exact hok
        have hnews : ∀ j u, (#[.slice r1 Rt.frags.length s1, .slice r2 Rt.defs.length s2] : Array Value).toList[j]? = some u → (Y.alloc (.cells #[.slice r1 Rt.frags.length s1, .slice r2 Rt.defs.length s2] 44)).cell? ((⟨Y.heap.size, 0, none⟩ : Addr).add j) = some u := World.news_of_block (heap_alloc_new Y _)
        have hrow := HIY.out.row
        have HAp : Hid (∀ v' w3, (Y.alloc (.cells #[.slice r1 Rt.frags.length s1, .slice r2 Rt.defs.length s2] 44)).grownBy w3 (Value.slice ad nn cc).ownBlock → w3.ownsRow w.heap.size 44 2 v' (es.length + 1) (es.flatMap pentCells ++ (#[.slice r1 Rt.frags.length s1, .slice r2 Rt.defs.length s2] : Array Value).toList) → EvR w w3 v' (es ++ [⟨Rt, .slice r1 Rt.frags.length s1, .slice r2 Rt.defs.length s2⟩])) := fun v' w3 hg ho =>
          (HIY.out.later ((Below.refl _ _).alloc (Nat.le_refl _) _)).push (.inr HAll.out) hg ho
        clear HG1 HIY HAll
        generalize Rt.frags.length = mf at *
        generalize Rt.defs.length = md at *
        go_wp2_with (at_builtin; refine wpList_append_own _ rfl _ _ 23 rfl w.heap.size 44 i0 (.agg #[.slice none 0 0, .slice none 0 0]) 2 48 Tryz.underlying23 hi0 hz0 hz1 hz2 rfl (by decide) _ _ _ rfl (hrow.alloc _) ⟨Y.heap.size, 0, none⟩ 1 1 (#[.slice r1 mf s1, .slice r2 md s2] : Array Value).toList rfl rfl hnews (fun u hu => by simp at hu; rcases hu with rfl | rfl <;> rfl) (by unfold maxLen; omega) (by omega) (by simp; omega) ?_; intro v' w3 hown' hgrow3 hnil3)
        go_roundw
        case rel => exact ⟨k + 1, _, by omega, by go_num, HEl2, HAp.out _ _ hgrow3 hown', HOe2, HG2⟩
        case measure => simp [intOf]; omega
      · obtain ⟨⟨hy0', hy1'⟩, hz0', hz1'⟩ := hbk hx
        obtain ⟨p, rfl⟩ : ∃ p : Nat, y = (p : Int) := ⟨y.toNat, by omega⟩
        obtain ⟨q, rfl⟩ : ∃ q : Nat, z = (q : Int) := ⟨z.toNat, by omega⟩
        have hel := HEl.out
        have hnn := Hnn.out
        subst hnn
        obtain ⟨bo, oo, f1, g1, f2, g2, hoa, u0, u1, hF1, hD1⟩ := HIY.out.cells p (by omega)
        obtain ⟨bo2, oo2, r1, s1, r2, s2, hoe, v0, v1, hF2, hD2⟩ := HIY.out.cells q (by omega)
        subst hoa
        cases hoe
        have HLR : M.evalLeft (es.map (·.p)) ⟨x, (p : Int), (q : Int)⟩ = (es.getD p pent0).p ∧ M.evalRight parts (es.map (·.p)) ⟨x, (p : Int), (q : Int)⟩ = (es.getD q pent0).p := by
          have hm : ∀ i, i < es.length → (es.map (·.p)).getD i M.nil = (es.getD i pent0).p := fun i hi => by
            rw [List.getD_eq_getElem?_getD, List.getD_eq_getElem?_getD, List.getElem?_map, List.getElem?_eq_getElem hi]; rfl
          exact ⟨by simp only [M.evalLeft, hx, cond_true, Int.toNat_natCast]; exact hm p (by omega), by simp only [M.evalRight, hx, cond_true, Int.toNat_natCast]; exact hm q (by omega)⟩
        rw [HLR.1, HLR.2] at HG1
        have okL := HOe.out _ (getD_mem es pent0 p (by omega))
        have okR := HOe.out _ (getD_mem es pent0 q (by omega))
        have c1 : Y.cell? ⟨nb, 1, none⟩ = some (.int .i64 p) := cellB pn 1
        have c2 : Y.cell? ⟨nb, 2, none⟩ = some (.int .i64 q) := cellB pn 2
        have lbo : bo < Y.heap.size := World.block_lt_of_cell? _ _ u0
        have hpl' : (p : Int) < (es.length : Int) := by omega
        have hql' : (q : Int) < (es.length : Int) := by omega
        have hxn : ¬ 0 ≤ x := by have h := beq_iff_eq.1 hx; omega
        clear HLR hbk hel pn HPY hlf hx
        generalize (es.getD p pent0).p = Lt at *
        generalize (es.getD q pent0).p = Rt at *
        have HOj : Hid ((M.join Lt Rt).2 = 0 → M.Ok (M.join Lt Rt).1) := fun h => (M.join_ok h).2.2.2.2
        have KJ : Hid (∀ W, Below Y.heap.size Y W → Calls Tryz.prog 33 #[.agg #[.slice f1 Lt.frags.length g1, .slice f2 Lt.defs.length g2], .agg #[.slice r1 Rt.frags.length s1, .slice r2 Rt.defs.length s2]] W fun e w' =>
            Below W.heap.size W w' ∧ ∃ es vF vD, e = .returned (.tuple #[.agg #[vF, vD], .int .i64 (M.join Lt Rt).2]) ∧ PR w' W.heap.size es (M.join Lt Rt).1.defs vF vD ∧ es.map (·.f) = (M.join Lt Rt).1.frags) := fun W hW => joined_any Lt Rt _ _ _ _ _ _ _ _ W (hF1.later hW) (hD1.later hW) (hF2.later hW) (hD2.later hW) okL okR
        clear hF1 hD1 hF2 hD2 okL okR
        generalize M.join Lt Rt = jn at *
        obtain ⟨jp, je⟩ := jn
        simp only at KJ HG1 HOj
        obtain ⟨nn, hnne⟩ : ∃ nn, es.length = nn := ⟨_, rfl⟩
        have Hnne : Hid (es.length = nn) := hnne
        rw [hnne] at hpl' hql' ⊢
        rw [hnne] at HIY
        clear hnne Hnn
        have hY0 : Below Y.heap.size Y Y.drew := (Below.refl _ _).drew
        have HS : Hid (∀ W, Below Y.heap.size Y W → W.cell? ⟨nb, 1, none⟩ = some (.int .i64 p) ∧ W.cell? ⟨nb, 2, none⟩ = some (.int .i64 q) ∧ W.cell? ⟨bo, oo + p * 2, none⟩ = some (.slice f1 Lt.frags.length g1) ∧ W.cell? ⟨bo, oo + p * 2 + 1, none⟩ = some (.slice f2 Lt.defs.length g2) ∧ W.cell? ⟨bo, oo + q * 2, none⟩ = some (.slice r1 Rt.frags.length s1) ∧ W.cell? ⟨bo, oo + q * 2 + 1, none⟩ = some (.slice r2 Rt.defs.length s2)) := fun W hW => ⟨cell_later hW c1, cell_later hW c2, cell_later hW u0, cell_later hW u1, cell_later hW v0, cell_later hW v1⟩
        have hY1 : Below Y.heap.size Y (Y.drew.alloc (.cells #[.slice none 0 0, .slice none 0 0] 44)) := hY0.alloc (Nat.le_refl _) _
        go_upto_region 7 with fail
        go_cut [9, 10] (fun s9 s10 wx => ∃ n9 z1 z2 z3 z4 mf, s9 = .pointer (some ⟨n9, 0, none⟩) ∧ s10 = .int .i64 je ∧ wx.heap[n9]? = some (.cells #[.slice z1 mf z2, .slice z3 jp.defs.length z4] 44 (0, 0)) ∧ Hid (EvR w wx (.slice (some ⟨bo, oo, none⟩) nn cc) es) ∧ Hid (POwn wx w.heap.size ⟨jp, .slice z1 mf z2, .slice z3 jp.defs.length z4⟩))
        case first =>
          go_region_held3 (fun w' => w'.cell? ⟨nb, 1, none⟩ = some (.int .i64 p) ∧ w'.cell? ⟨nb, 2, none⟩ = some (.int .i64 q) ∧ w'.cell? ⟨bo, oo + p * 2, none⟩ = some (.slice f1 Lt.frags.length g1) ∧ w'.cell? ⟨bo, oo + p * 2 + 1, none⟩ = some (.slice f2 Lt.defs.length g2) ∧ w'.cell? ⟨bo, oo + q * 2, none⟩ = some (.slice r1 Rt.frags.length s1) ∧ w'.cell? ⟨bo, oo + q * 2 + 1, none⟩ = some (.slice r2 Rt.defs.length s2)) (first | exact HS.out _ hY0 | exact HS.out _ hY1 | exact HS.out _ hX5 | exact HS.out _ (hX5.alloc hX5.size _) | exact HS.out _ (Below.setCell (Below.setCell hX5 (Nat.le_refl _) _) (Nat.le_refl _) _)) ((go_at_call 33; refine (KJ.out _ (by first | exact hY0 | exact hY1)).mono ?_; rintro e x5 ⟨hx5, es5, vF5, vD5, rfl, hP5, hes5⟩; have hX5 : Below Y.heap.size Y x5 := (by first | exact hY0.trans (hx5.mono hY0.size) | exact hY1.trans (hx5.mono hY1.size)); obtain ⟨z1, z2, rfl⟩ := own_len hP5.rowF; obtain ⟨z3, z4, rfl⟩ := own_len hP5.rowD; first | (have hq5 : x5.heap[Y.heap.size]? = some (.cells #[.slice none 0 0, .slice none 0 0] 44 (0, 0)) := (hx5.block _ (by simp)).trans (heap_alloc_new Y.drew _); have j0 : x5.cell? ⟨Y.heap.size, 0, none⟩ = some (.slice none 0 0) := cellB hq5 0; have j1 : x5.cell? ⟨Y.heap.size, 1, none⟩ = some (.slice none 0 0) := cellB hq5 1; have j2 := frozenB hq5 0; have j3 := frozenB hq5 1; have j4 : Y.heap.size < x5.heap.size := (Array.getElem?_eq_some_iff.1 hq5).1) | skip))
          all_goals
            have hz5 := hX5.size
            go_wp2_with fail
            go_meet
            first
              | exact ⟨_, z1, z2, z3, z4, es5.length, rfl, rfl, heap_alloc_new _ _, HIY.out.later (hX5.alloc hX5.size _), ⟨es5, (hP5.base hwY).later ((Below.refl _ _).alloc (Nat.le_refl _) _), hes5⟩⟩
              | exact ⟨_, z1, z2, z3, z4, es5.length, rfl, rfl, setB' (setB' hq5 _) _, HIY.out.later (Below.setCell (Below.setCell hX5 (Nat.le_refl _) _) (Nat.le_refl _) _), ⟨es5, ((hP5.base (Nat.le_trans hwY hY1.size)).set hq5).set (setB' hq5 _), hes5⟩⟩
        case rest =>
          obtain ⟨n9, z1, z2, z3, z4, mf, rfl, rfl, p6, HI6, HP6⟩ := hcut
          clear HS KJ hY0 hY1 HIY k0 c1 c2 u0 u1 v0 v1 ln lbo hwY
          have k0 : wc.cell? ⟨n9, 0, none⟩ = some (.slice z1 mf z2) := cellB p6 0
          have k1 : wc.cell? ⟨n9, 1, none⟩ = some (.slice z3 jp.defs.length z4) := cellB p6 1
          have l6 : n9 < wc.heap.size := (Array.getElem?_eq_some_iff.1 p6).1
          by_cases hje : je = 0
          · subst hje
            rw [if_pos rfl] at HG1
            have HG2 : Hid (R = M.evalGo parts ((es ++ [(⟨jp, .slice z1 mf z2, .slice z3 jp.defs.length z4⟩ : PEnt)]).map (·.p)) (l.drop (k + 1))) := by rw [Hid, List.map_append]; exact HG1
            have hrow := HI6.out.row
            have hwX : w.heap.size ≤ wc.heap.size := HI6.out.below.size
            have hokj := HOj.out rfl
            generalize hdl : jp.defs.length = md at *
            have HAp : Hid (∀ v' w3, (wc.alloc (.cells #[.slice z1 mf z2, .slice z3 md z4] 44)).grownBy w3 (Value.slice (some ⟨bo, oo, none⟩) nn cc).ownBlock → w3.ownsRow w.heap.size 44 2 v' (es.length + 1) (es.flatMap pentCells ++ (#[.slice z1 mf z2, .slice z3 md z4] : Array Value).toList) → EvR w w3 v' (es ++ [⟨jp, .slice z1 mf z2, .slice z3 md z4⟩])) := fun v' w3 hg ho => by
              have hb := (Below.refl wc.heap.size wc).alloc (Nat.le_refl _) (.cells #[.slice z1 mf z2, .slice z3 md z4] 44)
              obtain ⟨en, h1, h2⟩ := HP6.out
              exact (HI6.out.later hb).push (.inl ⟨en, h1.later hb, h2⟩) hg ho
            have hnews : ∀ j u, (#[.slice z1 mf z2, .slice z3 md z4] : Array Value).toList[j]? = some u → (wc.alloc (.cells #[.slice z1 mf z2, .slice z3 md z4] 44)).cell? ((⟨wc.heap.size, 0, none⟩ : Addr).add j) = some u := World.news_of_block (heap_alloc_new wc _)
            have HEl2 : Hid ((es ++ [(⟨jp, .slice z1 mf z2, .slice z3 md z4⟩ : PEnt)]).length = k + 1) := by have := HEl.out; simp [Hid, this]
            have HOe2 : Hid (∀ e ∈ es ++ [(⟨jp, .slice z1 mf z2, .slice z3 md z4⟩ : PEnt)], M.Ok e.p) := fun e he => by
              rcases List.mem_append.1 he with h | h
              · exact HOe.out e h
              · rw [List.mem_singleton.1 h]; exact hokj
            clear HG1 HI6 HP6 p6 hokj HOj
            go_wp2_with (at_builtin; refine wpList_append_own _ rfl _ _ 23 rfl w.heap.size 44 i0 (.agg #[.slice none 0 0, .slice none 0 0]) 2 48 Tryz.underlying23 hi0 hz0 hz1 hz2 rfl (by decide) _ _ _ rfl (hrow.alloc _) ⟨wc.heap.size, 0, none⟩ 1 1 (#[.slice z1 mf z2, .slice z3 md z4] : Array Value).toList rfl rfl hnews (fun u hu => by simp at hu; rcases hu with rfl | rfl <;> rfl) (by unfold maxLen; omega) (by omega) (by simp; omega) ?_; intro v' w3 hown' hgrow3 hnil3)
            go_roundw
            case rel => exact ⟨k + 1, _, by omega, by go_num, HEl2, HAp.out _ _ hgrow3 hown', HOe2, HG2⟩
            case measure => simp [intOf]; omega
          · rw [if_neg hje] at HG1
            have HG2 : Hid (R = ([], je)) := HG1
            have hne : (je != 0) = true := by simpa using hje
            clear HG1 hje
            have HB6 : Hid (Below w.heap.size w wc) := HI6.out.below
            have HNil : Hid (PartsAt wc (.slice none ([] : List M.Prt).length 0) []) := ⟨fun _ _ => undef, ⟨none, 0, rfl, Nat.zero_le _, .inl rfl⟩, fun j hj => absurd hj (Nat.not_lt_zero _)⟩
            clear HI6 HP6 p6 k0 k1
            go_wp2_with fail
            go_ret2
            exact ⟨HB6.out, none, 0, by rw [HG2.out]; rfl, by rw [HG2.out]; exact HNil.out⟩
    · have hkl : k = l.length := by omega
      have HG1 : Hid (R = (es.map (·.p), 0)) := by rw [Hid, HG.out, hkl, List.drop_eq_nil_of_le (Nat.le_refl _)]; rfl
      have hO := HI.out.partsAt
      clear HG
      subst hnn
      subst hkl
      go_wp2
      go_ret2
      obtain ⟨a9, c9, e9, h9⟩ := hO
      cases e9
      exact ⟨hwI, ad, cc, by rw [HG1.out, List.length_map]; rfl, by rw [HG1.out, List.length_map]; exact h9⟩

end Go.Proofs.YthdckapdhcpaoaaGreatDoor
