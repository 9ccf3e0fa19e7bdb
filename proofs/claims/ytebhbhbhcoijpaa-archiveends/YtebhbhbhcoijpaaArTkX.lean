/-
  Parts of one's own in a row of one's own. What Choose has in memory; the contract of Choose's first function: a part is taken. The contract of archive.search.
-/
import Derived.Test.YtebhbhbhcoijpaaPrtMem
import Derived.Test.YtebhbhbhcoijpaaArHx
import Derived.Test.YtebhbhbhcoijpaaRefX
import Derived.Deep.LoopGhost
import Derived.Deep.DeepCutAuto

namespace Go.Proofs.Ytebhbhbhcoijpaa
open Go Go.RowKit
set_option linter.unusedVariables false

/-- a part that was taken, with the two slices that it holds -/
structure PEnt where
  p : M.Prt
  vF : Value
  vD : Value
def pentCells (e : PEnt) : List Value := [e.vF, e.vD]

/-- a part of one's own -/
def POwn (W : World) (B : Nat) (e : PEnt) : Prop := ∃ ents, PR W B ents e.p.defs e.vF e.vD ∧ ents.map (·.f) = e.p.frags

theorem PR.keptR {w w' : World} {B B' n : Nat} {es : List Ent} {ds : List M.Dfn} {vF vD v : Value} {xs : List Value} (h : PR w B es ds vF vD) (hr : w.ownsRow B' 25 2 v n xs) (hg : w.grownBy w' v.ownBlock) : PR w' B es ds vF vD :=
  ⟨h.rowF.kept hg (own_apart h.rowF hr (by decide)), h.rowD.kept hg (own_apart h.rowD hr (by decide)), fun e he => (h.bytes e he).kept hg (own_apart (h.bytes e he) hr (by decide)), h.small, h.smallD, fun e he => (h.rels e he).kept hg (own_apart (h.rels e he) hr (by decide))⟩


end Go.Proofs.Ytebhbhbhcoijpaa

namespace Go.Proofs.Ytebhbhbhcoijpaa
open Go Go.RowKit
set_option linter.unusedVariables false

theorem step_call1 {P : Program} {w : World} {ops : Array Oper} {o : Oper} {a : Act} {K : Act → World → Prop} {Q : Exit → Act → World → Prop} {E : Prop} (hgd : o.guard = none) (f : FuncId) (x : Operand) (t : TypeId)
    (ho : o.op = .call { callee := .value (.func f), args := #[x], argTypes := #[t] }) (v : Value) (hx : a.eval x = v) (he : ∀ args w, (callFunc f args).run P w = .ok (.enter f args) w) {post : Ending → World → Prop} (hc : Calls P f #[v] w post)
    (h : ∀ e w', post e w' → ∃ u, e = .returned u ∧ K (a.put o.dst u) w') : if Region.wanted o (yielded ops a.tmps) = true then Oper.wp P o a w K Q else E := by
  have hw : Region.wanted o (yielded ops a.tmps) = true := by simp [Region.wanted, hgd]
  rw [if_pos hw]
  have hrun : (execOp a.eval o).run P w = .ok (.enter f #[v]) w := by
    simp only [execOp, ho, resolve, invoke, Sem.run_bind, List.map_toArray, List.map_cons, List.map_nil, hx]
    simp [Act.eval, he, go_sem]
  unfold Oper.wp
  rw [hrun, Oper.upon_enter]
  refine hc.mono fun e w' hp => ?_
  obtain ⟨u, rfl, hk⟩ := h e w' hp
  exact hk

theorem step_append_srcA {P : Program} {w : World} {ops : Array Oper} {o : Oper} {a : Act} {K : Act → World → Prop} {Q : Exit → Act → World → Prop} {E : Prop} (hgd : o.guard = none) (s x : Operand) (t : TypeId)
    (ho : o.op = .call { callee := .builtin .append, args := #[s, x], argTypes := #[t, t] })
    (base : Nat) (e : TypeId) (i : TypeInfo) (z : Value) (size bytes : Nat) (ht : P.underlying t = some (.slice e)) (hi : P.info? e = some i) (hz : i.zero = some z)
    (hsize : i.size = size) (hby : i.bytes = bytes) (hzs : z.cells.size = size) (hsz : 0 < size)
    (v : Value) (n : Nat) (xs : List Value) (hs : a.eval s = v) (hown : w.ownsRow base e size v n xs)
    (u : Value) (m : Nat) (news : List Value) (hx : a.eval x = u) (hsrc : Src w u m news) (hl : news.length = m * size) (h1 : ∀ u ∈ news, u.oneCell' = true)
    (h63 : n + m ≤ maxLen) (hbytes : (n + m) * bytes ≤ 140737488355328) (hbase : base ≤ w.heap.size)
    (h : ∀ v' w', w'.ownsRow base e size v' (n + m) (xs ++ news) → w.grownBy w' v.ownBlock → K (a.put o.dst v') w') : if Region.wanted o (yielded ops a.tmps) = true then Oper.wp P o a w K Q else E := by
  have hw : Region.wanted o (yielded ops a.tmps) = true := by simp [Region.wanted, hgd]
  rw [if_pos hw]
  exact wp_append_src w s x t ho base e i z size bytes ht hi hz hsize hby hzs hsz v n xs hs hown u m news hx hsrc hl h1 h63 hbytes hbase h

theorem PR.keptM {w w' : World} {B b N : Nat} {es : List Ent} {ds : List M.Dfn} {vF vD : Value} {st : M.St} (h : PR w B es ds vF vD) (hs : StAt w b N st) (hg : w.grownBy w' (some b)) : PR w' B es ds vF vD :=
  ⟨h.rowF.kept hg (row_st h.rowF hs), h.rowD.kept hg (row_st h.rowD hs), fun e he => (h.bytes e he).kept hg (row_st (h.bytes e he) hs), h.small, h.smallD, fun e he => (h.rels e he).kept hg (row_st (h.rels e he) hs)⟩

theorem PR.setS {w : World} {B b i : Nat} {es : List Ent} {ds : List M.Dfn} {vF vD u : Value} {cs : Array Value} (h : PR w B es ds vF vD) (hb : w.heap[b]? = some (.cells cs 32 (0, 0))) : PR (w.setCell ⟨b, i, none⟩ u) B es ds vF vD :=
  ⟨row_setc h.rowF hb (by decide), row_setc h.rowD hb (by decide), fun e he => row_setc (h.bytes e he) hb (by decide), h.small, h.smallD, fun e he => row_setc (h.rels e he) hb (by decide)⟩

/-- what Choose has in memory -/
structure Ch (w0 W : World) (n8 n9 b N : Nat) (st : M.St) (es : List PEnt) (vO : Value) : Prop where
  below : Below w0.heap.size w0 W
  q8 : W.heap[n8]? = some (.cells #[vO] 32 (0, 0))
  q9 : W.heap[n9]? = some (.cells #[.map (some b)] 115 (0, 0))
  g8 : w0.heap.size ≤ n8
  gb : w0.heap.size ≤ b
  st : StAt W b N st
  row : W.ownsRow w0.heap.size 25 2 vO es.length (es.flatMap pentCells)
  parts : ∀ e ∈ es, POwn W w0.heap.size e

theorem Ch.later {w0 W X : World} {n8 n9 b N : Nat} {st : M.St} {es : List PEnt} {vO : Value} (h : Ch w0 W n8 n9 b N st es vO) (hb : Below W.heap.size W X) : Ch w0 X n8 n9 b N st es vO :=
  ⟨h.below.trans (hb.mono h.below.size), (hb.block _ (Array.getElem?_eq_some_iff.1 h.q8).1).trans h.q8, (hb.block _ (Array.getElem?_eq_some_iff.1 h.q9).1).trans h.q9, h.g8, h.gb, h.st.later hb,
   h.row.kept (grown_of_below hb none) own_self, fun e he => let ⟨en, h1, h2⟩ := h.parts e he; ⟨en, h1.later hb, h2⟩⟩

theorem Ch.mapped {w0 W X : World} {n8 n9 b N N' : Nat} {st st' : M.St} {es : List PEnt} {vO : Value} (h : Ch w0 W n8 n9 b N st es vO) (hg : W.grownBy X (some b)) (hs : StAt X b N' st') : Ch w0 X n8 n9 b N' st' es vO :=
  ⟨h.below.grown hg h.below.size (fun k hk => by cases hk; exact h.gb), block_st h.st hg h.q8, block_st h.st hg h.q9, h.g8, h.gb, hs,
   h.row.kept hg (row_st h.row h.st), fun e he => let ⟨en, h1, h2⟩ := h.parts e he; ⟨en, h1.keptM h.st hg, h2⟩⟩

theorem Ch.push {w0 W w5 : World} {n8 n9 b N : Nat} {st : M.St} {es : List PEnt} {vO v' : Value} {e : PEnt} (h : Ch w0 W n8 n9 b N st es vO) (he : POwn W w0.heap.size e) (hg : W.grownBy w5 vO.ownBlock)
    (hrow : w5.ownsRow w0.heap.size 25 2 v' (es.length + 1) (es.flatMap pentCells ++ pentCells e)) : Ch w0 (w5.setCell ⟨n8, 0, none⟩ v') n8 n9 b N st (es ++ [e]) v' := by
  have z8 := block_kept h.row hg h.q8 (by decide)
  have z9 := block_kept h.row hg h.q9 (by decide)
  have hne : n9 ≠ n8 := fun e => by
    have := h.q9
    rw [e, h.q8] at this
    cases this
  have hst : StAt w5 b N st := h.st.kept hg (fun e => by
    rcases row_st h.row h.st with h1 | h1
    · rw [h1] at e; cases e
    · exact h1 e)
  have hst2 : StAt (w5.setCell ⟨n8, 0, none⟩ v') b N st := hst.kept (grown_set w5 n8 0 v') (fun e => by
    cases e
    obtain ⟨_, _, _, ⟨es', clock, hm, _⟩, _⟩ := hst
    rw [hm] at z8
    cases z8)
  refine ⟨(h.below.grown hg h.below.size (fun k hk => (h.row.lt k hk).1)).setCell h.g8 _, setB' z8 v', (Below.heap_setCell _ _ _ _ hne).trans z9, h.g8, h.gb, hst2, ?_, fun x hx => ?_⟩
  · rw [List.length_append, List.flatMap_append]
    have := row_setc hrow z8 (i := 0) (u := v') (by decide)
    simpa [List.flatMap_cons] using this
  · have hx' : POwn W w0.heap.size x := by
      rcases List.mem_append.1 hx with hx | hx
      · exact h.parts x hx
      · rw [List.mem_singleton.1 hx]; exact he
    obtain ⟨en, h1, h2⟩ := hx'
    exact ⟨en, (h1.keptR h.row hg).setS z8, h2⟩

/-- blocks that hold neither parts nor slices of parts are as they were -/
def Ag (w w' : World) : Prop := ∀ (k : Nat) (cs : Array Value) (t : TypeId), w.heap[k]? = some (Obj.cells cs t (0, 0)) → t ≠ 25 → t ≠ 32 → w'.heap[k]? = some (Obj.cells cs t (0, 0))
theorem Ag.refl (w : World) : Ag w w := fun _ _ _ h _ _ => h
theorem Ag.trans {w w' w'' : World} (h : Ag w w') (h' : Ag w' w'') : Ag w w'' := fun k cs t hk h1 h2 => h' k cs t (h k cs t hk h1 h2) h1 h2
theorem Ag.below {w w' : World} (h : Below w.heap.size w w') : Ag w w' := fun k cs t hk _ _ => (h.block k (Array.getElem?_eq_some_iff.1 hk).1).trans hk
theorem Ag.map {w w' : World} {b N : Nat} {st : M.St} (hs : StAt w b N st) (hg : w.grownBy w' (some b)) : Ag w w' := fun k cs t hk _ _ => block_st hs hg hk

theorem own_one {w : World} {B k n : Nat} {e : TypeId} {v : Value} {xs : List Value} (h : w.ownsRow B e k v n xs) : v.oneCell' = true := by
  obtain ⟨a, c, rfl⟩ := own_len h
  rfl

theorem room_of {p : M.Prt} (h : M.Ok p) : Room p := room_ok h

set_option maxHeartbeats 8000000 in
set_option maxRecDepth 100000 in
theorem takeFn_any (p : M.Prt) (a1 a2 : Option Addr) (c1 c2 n8 n9 b N : Nat) (st : M.St) (es : List PEnt) (vO : Value) (w0 w : World) (hfd : ∀ W, Below w0.heap.size w0 W → FragsAt W (.slice a1 p.frags.length c1) p.frags ∧ DefsAt W (.slice a2 p.defs.length c2) p.defs) (hck : M.checkPart p = 0)
    (hC : Ch w0 w n8 n9 b N st es vO) (hN : N + 540 ≤ 1000000000) (hes : es.length ≤ 1000) :
    Calls Try.prog 71 #[.agg #[.slice a1 p.frags.length c1, .slice a2 p.defs.length c2], .pointer (some ⟨n8, 0, none⟩), .pointer (some ⟨n9, 0, none⟩)] w fun e w' => e = .returned (.tuple #[]) ∧ ∃ vF vD vO', Ch w0 w' n8 n9 b (N + 540) (M.enter st p) (es ++ [⟨p, vF, vD⟩]) vO' ∧ Ag w w' := by
  obtain ⟨i0, hi0, hz0, hz1, hz2⟩ := info_parts (P := Try.prog) (e := 25) (z := .agg #[.slice none 0 0, .slice none 0 0]) (size := 2) (bytes := 48) (by kernel_rfl)
  have eg : ∀ args w, (callFunc 72 args).run Try.prog w = .ok (.enter 72 args) w := enters_of Try.func72 (by kernel_rfl) rfl
  have hok := (M.ok_iff p).1 hck
  obtain ⟨aO, cO, rfl⟩ := own_len hC.row
  have hA : Below w.heap.size w (w.alloc (.cells #[.slice a1 p.frags.length c1, .slice a2 p.defs.length c2] 25)) := (Below.refl _ _).alloc (Nat.le_refl _) _
  have HX := hC.later hA
  have HLt : Hid (∀ k, (Value.slice aO es.length cO).ownBlock = some k → k < w.heap.size) := fun k hk => (hC.row.lt k hk).2
  have HFd : Hid (∀ W, Below w0.heap.size w0 W → FragsAt W (.slice a1 p.frags.length c1) p.frags ∧ DefsAt W (.slice a2 p.defs.length c2) p.defs) := hfd
  have hwb := hC.below
  obtain ⟨hf, hd⟩ := hfd w hwb
  have hq := heap_alloc_new w (.cells #[.slice a1 p.frags.length c1, .slice a2 p.defs.length c2] 25)
  have KC : Hid (∀ W, Below (w.alloc (.cells #[.slice a1 p.frags.length c1, .slice a2 p.defs.length c2] 25)).heap.size (w.alloc (.cells #[.slice a1 p.frags.length c1, .slice a2 p.defs.length c2] 25)) W → Calls Try.prog 72 #[.agg #[.slice a1 p.frags.length c1, .slice a2 p.defs.length c2]] W fun e w' => Below W.heap.size W w' ∧ ∃ en vF vD, e = .returned (.agg #[vF, vD]) ∧ PR w' W.heap.size en p.defs vF vD ∧ en.map (·.f) = p.frags ∧ en.Pairwise Apart) := fun W hW => copied_any p a1 a2 c1 c2 W ((hf.later hA).later hW) ((hd.later hA).later hW) (room_of hok)
  clear hf hd hC hok hfd hwb
  go_enter Try.func71, Try.ntmps71
  go_upto_region 1 with fail
  generalize w.alloc (.cells #[.slice a1 p.frags.length c1, .slice a2 p.defs.length c2] 25) = X at *
  have hlX : w.heap.size < X.heap.size := (Array.getElem?_eq_some_iff.1 hq).1
  have q0 : X.cell? ⟨w.heap.size, 0, none⟩ = some (.slice a1 p.frags.length c1) := cellB hq 0
  have q1 : X.cell? ⟨w.heap.size, 1, none⟩ = some (.slice a2 p.defs.length c2) := cellB hq 1
  have o8 : X.cell? ⟨n8, 0, none⟩ = some (.slice aO es.length cO) := cellB HX.q8 0
  have hl8 : n8 < X.heap.size := (Array.getElem?_eq_some_iff.1 HX.q8).1
  have HXh : Hid (Ch w0 X n8 n9 b N st es (.slice aO es.length cO)) := HX
  clear HX
  go_cut [] (fun wx => ∃ vF vD vO', Ch w0 wx n8 n9 b N st (es ++ [⟨p, vF, vD⟩]) vO' ∧ wx.heap[w.heap.size]? = some (.cells #[.slice a1 p.frags.length c1, .slice a2 p.defs.length c2] 25 (0, 0)) ∧ Ag X wx)
  case first =>
    have HRow : Hid (∀ W, Below X.heap.size X W → W.ownsRow w0.heap.size 25 2 (.slice aO es.length cO) es.length (es.flatMap pentCells) ∧ w0.heap.size ≤ W.heap.size) := fun W hW => ⟨(HXh.out.later hW).row, (HXh.out.later hW).below.size⟩
    have H8 : Hid (∀ W w5, Below X.heap.size X W → W.grownBy w5 (Value.slice aO es.length cO).ownBlock → w5.heap[n8]? = some (.cells #[.slice aO es.length cO] 32 (0, 0))) := fun W w5 hW hg => block_kept (HXh.out.later hW).row hg (HXh.out.later hW).q8 (by decide)
    have HAg : Hid (∀ W w5 u, Below X.heap.size X W → W.grownBy w5 (Value.slice aO es.length cO).ownBlock → Ag X (w5.setCell ⟨n8, 0, none⟩ u)) := fun W w5 u hW hg => by
      intro k cs t hk h1 h2
      have hne : k ≠ n8 := fun e => by
        have := HXh.out.q8
        rw [← e, hk] at this
        cases this
        exact h2 rfl
      rw [Below.heap_setCell _ _ _ _ hne]
      exact block_kept (HXh.out.later hW).row hg ((hW.block k (Array.getElem?_eq_some_iff.1 hk).1).trans hk) (fun e => h1 e.symm)
    have HQ : Hid (∀ W w5 u, Below X.heap.size X W → W.grownBy w5 (Value.slice aO es.length cO).ownBlock → (w5.setCell ⟨n8, 0, none⟩ u).heap[w.heap.size]? = some (.cells #[.slice a1 p.frags.length c1, .slice a2 p.defs.length c2] 25 (0, 0))) := fun W w5 u hW hg => by
      have hne : w.heap.size ≠ n8 := fun e => by
        have := HXh.out.q8
        rw [← e, hq] at this
        simp at this
      rw [Below.heap_setCell _ _ _ _ hne, hg.block w.heap.size (Nat.lt_of_lt_of_le hlX hW.size) (fun e => Nat.lt_irrefl _ (HLt.out _ e.symm)), hW.block _ hlX]
      exact hq
    go_region_law (first | (refine step_call1 (by rfl) 72 (.tmp 5) 25 (by rfl) _ (by rfl) eg (KC.out _ (Below.refl _ _).drew) ?_; rintro e w3 ⟨hb3, en, vF, vD, rfl, hP, hen, _⟩; refine ⟨_, rfl, ?_⟩; have hX3 : Below X.heap.size X w3 := ((Below.refl _ _).drew).trans hb3; have o8' : w3.cell? ⟨n8, 0, none⟩ = some (.slice aO es.length cO) := cell_later hX3 o8; have hl8' : n8 < w3.heap.size := Nat.lt_of_lt_of_le hl8 hX3.size; have hA3 := hX3.alloc hX3.size (.cells #[vF, vD] 25); have hsrc : Src (w3.alloc (.cells #[vF, vD] 25)) (.slice (some ⟨w3.heap.size, 0, none⟩) 1 1) 1 [vF, vD] := ⟨_, _, rfl, .inr ⟨_, rfl, World.news_of_block (heap_alloc_new w3 (.cells #[vF, vD] 25))⟩⟩) | (refine step_append_srcA (by rfl) (.tmp 4) (.tmp 7) 32 (by rfl) w0.heap.size 25 i0 (.agg #[.slice none 0 0, .slice none 0 0]) 2 48 Try.underlying32 hi0 hz0 hz1 hz2 rfl (by decide) _ _ _ (by rfl) (HRow.out _ hA3).1 _ 1 [vF, vD] (by rfl) hsrc (by rfl) (fun u hu => by simp at hu; rcases hu with rfl | rfl; exact own_one hP.rowF; exact own_one hP.rowD) (by unfold maxLen; omega) (by omega) (HRow.out _ hA3).2 ?_; intro v5 w5 ho5 hg5; have z8 := H8.out _ _ hA3 hg5; have c8 : w5.cell? ⟨n8, 0, none⟩ = some (.slice aO es.length cO) := cellB z8 0; have f8 := frozenB z8 0; obtain ⟨a5, c5, rfl⟩ := own_len ho5))
    all_goals
      go_wp2_with fail
      go_meet
      have hfin := (HXh.out.later hA3).push (e := ⟨p, vF, vD⟩) ⟨en, (hP.base (by exact HXh.out.below.size)).later ((Below.refl _ _).alloc (Nat.le_refl _) _), hen⟩ hg5 ho5
      exact ⟨vF, vD, _, hfin, HQ.out _ _ _ hA3 hg5, HAg.out _ _ _ hA3 hg5⟩
  case rest =>
    obtain ⟨vF, vD, vO', hC, hqx, hag⟩ := hcut
    have HAg : Hid (Ag w wc) := (Ag.below hA).trans hag
    clear hag
    obtain ⟨hf, hd⟩ := HFd.out _ hC.below
    have KE : Hid (Calls Try.prog 73 #[.map (some b), .agg #[.slice a1 p.frags.length c1, .slice a2 p.defs.length c2]] wc fun e w' => e = .returned (.tuple #[]) ∧ StAt w' b (N + 540) (M.enter st p) ∧ wc.grownBy w' (some b)) := enter_any p a1 a2 c1 c2 b N st wc hf hd hck hC.st hN
    have k0 : wc.cell? ⟨w.heap.size, 0, none⟩ = some (.slice a1 p.frags.length c1) := cellB hqx 0
    have k1 : wc.cell? ⟨w.heap.size, 1, none⟩ = some (.slice a2 p.defs.length c2) := cellB hqx 1
    have k9 : wc.cell? ⟨n9, 0, none⟩ = some (.map (some b)) := cellB hC.q9 0
    have HC : Hid (Ch w0 wc n8 n9 b N st (es ++ [⟨p, vF, vD⟩]) vO') := hC
    clear hC hqx hf hd HXh KC q0 q1 o8 hl8 hlX hq hA HLt HFd
    go_wp2_with (go_at_call 73; refine KE.out.mono ?_; rintro e w6 ⟨rfl, hS6, hg6⟩)
    refine bodyPost_end (v := .tuple #[]) (by simp [results, Try.results71, go_sem]) rfl ?_
    exact ⟨rfl, vF, vD, vO', HC.out.mapped hg6 hS6, HAg.out.trans (Ag.map HC.out.st hg6)⟩

end Go.Proofs.Ytebhbhbhcoijpaa

namespace Go.Proofs.Ytebhbhbhcoijpaa
open Go Go.RowKit
set_option linter.unusedVariables false

/-- what search has in memory -/
structure SI (w0 W : World) (n6 n8 n9 b N0 e0 : Nat) (s : M.Ars) (es : List PEnt) (vO : Value) : Prop where
  ch : ∃ N, N ≤ N0 + 540 * M.cnt s.tk ∧ Ch w0 W n8 n9 b N s.st es vO
  out : es.map (·.p) = s.out
  len : es.length ≤ e0 + M.cnt s.tk
  q6 : W.heap[n6]? = some (.cells (s.tk.map Value.bool).toArray 152 (0, 0))
  tl : s.tk.length = 8

theorem SI.later {w0 W X : World} {n6 n8 n9 b N0 e0 : Nat} {s : M.Ars} {es : List PEnt} {vO : Value} (h : SI w0 W n6 n8 n9 b N0 e0 s es vO) (hb : Below W.heap.size W X) : SI w0 X n6 n8 n9 b N0 e0 s es vO :=
  let ⟨N, h1, h2⟩ := h.ch
  ⟨⟨N, h1, h2.later hb⟩, h.out, h.len, (hb.block _ (Array.getElem?_eq_some_iff.1 h.q6).1).trans h.q6, h.tl⟩

/-- a part in a slice: its two slices -/
theorem part_at {w : World} {a : Option Addr} {c : Nat} {ps : List M.Prt} (h : PartsAt w (.slice a ps.length c) ps) (j : Nat) (hj : j < ps.length) :
    ∃ b off a1 a2 c1 c2, a = some ⟨b, off, none⟩ ∧ w.cell? ⟨b, off + j * 2, none⟩ = some (.slice a1 (ps.getD j M.nil).frags.length c1) ∧ w.cell? ⟨b, off + j * 2 + 1, none⟩ = some (.slice a2 (ps.getD j M.nil).defs.length c2)
      ∧ FragsAt w (.slice a1 (ps.getD j M.nil).frags.length c1) (ps.getD j M.nil).frags ∧ DefsAt w (.slice a2 (ps.getD j M.nil).defs.length c2) (ps.getD j M.nil).defs := by
  obtain ⟨cell, h1, h2⟩ := h
  obtain ⟨b, off, e, hc⟩ := h1.at j hj
  obtain ⟨hf, hd⟩ := h2 j hj
  have c0 := hc 0 (by decide)
  have c1 := hc 1 (by decide)
  have hf' := hf
  obtain ⟨cf, hs, _⟩ := hf'
  obtain ⟨a1, k1, e1, _⟩ := hs.form
  obtain ⟨a2, k2, e2, _⟩ := hd.1.form
  rw [e1] at hf c0
  rw [e2] at hd c1
  exact ⟨b, off, a1, a2, k1, k2, e, c0, c1, hf, hd⟩

/-- a cell of a block of another kind is stored -/
theorem Ch.setB {w0 W : World} {n8 n9 b N g i : Nat} {st : M.St} {es : List PEnt} {vO u : Value} {cs : Array Value} (h : Ch w0 W n8 n9 b N st es vO) (hg : W.heap[g]? = some (.cells cs 152 (0, 0))) (hgw : w0.heap.size ≤ g) : Ch w0 (W.setCell ⟨g, i, none⟩ u) n8 n9 b N st es vO := by
  have n8g : n8 ≠ g := fun e => by have := h.q8; rw [e, hg] at this; cases this
  have n9g : n9 ≠ g := fun e => by have := h.q9; rw [e, hg] at this; cases this
  have hst : StAt (W.setCell ⟨g, i, none⟩ u) b N st := h.st.kept (grown_set W g i u) (fun e => by
    cases e
    obtain ⟨_, _, _, ⟨es', clock, hm, _⟩, _⟩ := h.st
    rw [hm] at hg
    cases hg)
  refine ⟨h.below.setCell hgw _, (Below.heap_setCell _ _ _ _ n8g).trans h.q8, (Below.heap_setCell _ _ _ _ n9g).trans h.q9, h.g8, h.gb, hst, row_setc h.row hg (by decide), fun e he => ?_⟩
  obtain ⟨en, h1, h2⟩ := h.parts e he
  exact ⟨en, ⟨row_setc h1.rowF hg (by decide), row_setc h1.rowD hg (by decide), fun e he => row_setc (h1.bytes e he) hg (by decide), h1.small, h1.smallD, fun e he => row_setc (h1.rels e he) hg (by decide)⟩, h2⟩

/-- what search leaves -/
def SrOut (w0 w w' : World) (n8 n9 b N e0 : Nat) (s : M.Ars) : Prop := ∃ es vO', Ch w0 w' n8 n9 b N s.st es vO' ∧ es.map (·.p) = s.out ∧ es.length ≤ e0 + 8 ∧ Ag w w'

theorem nil_nilP : M.nil = M.nilP := rfl

set_option maxHeartbeats 8000000 in
set_option maxRecDepth 100000 in
theorem search_any (parts : List M.Prt) (aP : Option Addr) (cP n8 n9 b N0 : Nat) (st : M.St) (es0 : List PEnt) (vO : Value) (w0 w : World) (hP : PartsAt w0 (.slice aP parts.length cP) parts) (h8 : parts.length ≤ 8) (hck : ∀ p ∈ parts, M.checkPart p = 0)
    (hC : Ch w0 w n8 n9 b N0 st es0 vO) (hN : N0 + 10000 ≤ 1000000000) (hes : es0.length ≤ 900) :
    Calls Try.prog 74 #[.slice aP parts.length cP, .func (.func 71) #[] #[.pointer (some ⟨n8, 0, none⟩), .pointer (some ⟨n9, 0, none⟩)], .func (.func 75) #[] #[.pointer (some ⟨n9, 0, none⟩)]] w fun e w' => e = .returned (.tuple #[]) ∧ SrOut w0 w w' n8 n9 b (N0 + 4320) es0.length (M.search parts st (es0.map (·.p))) := by
  have hA : Below w.heap.size w (w.alloc (.cells #[.bool false, .bool false, .bool false, .bool false, .bool false, .bool false, .bool false, .bool false] 152)) := (Below.refl _ _).alloc (Nat.le_refl _) _
  have HI0 : Hid (SI w0 (w.alloc (.cells #[.bool false, .bool false, .bool false, .bool false, .bool false, .bool false, .bool false, .bool false] 152)) w.heap.size n8 n9 b N0 es0.length ⟨st, es0.map (·.p), M.none8⟩ es0 vO) :=
    ⟨⟨N0, by omega, hC.later hA⟩, rfl, by omega, heap_alloc_new w _, rfl⟩
  have HA0 : Hid (Ag w (w.alloc (.cells #[.bool false, .bool false, .bool false, .bool false, .bool false, .bool false, .bool false, .bool false] 152))) := Ag.below hA
  have HR : Hid (M.rounds parts 9 ⟨st, es0.map (·.p), M.none8⟩ = M.search parts st (es0.map (·.p))) := rfl
  generalize M.search parts st (es0.map (·.p)) = R at *
  have HPa : Hid (PartsAt w0 (.slice aP parts.length cP) parts) := hP
  have HCk : Hid (∀ p ∈ parts, M.checkPart p = 0) := hck
  have hsz0 : w0.heap.size ≤ w.heap.size := hC.below.size
  clear hP hck hC hA
  go_enter Try.func74, Try.ntmps74
  go_wp2_with fail
  generalize w.alloc (.cells #[.bool false, .bool false, .bool false, .bool false, .bool false, .bool false, .bool false, .bool false] 152) = X at *
  generalize hn6 : w.heap.size = n6 at *
  go_loopg [7] 10 (fun g s7 wr => ∃ (ag : Bool) (s : M.Ars) (es : List PEnt) (v : Value), s7 = .bool ag ∧ Hid (SI w0 wr n6 n8 n9 b N0 es0.length s es v) ∧ Hid (Ag w wr) ∧ ((ag = true ∧ ∃ f, g = f + 1 ∧ Hid (M.rounds parts f s = R) ∧ 8 < f + M.cnt s.tk) ∨ (ag = false ∧ g = 0 ∧ Hid (s = R))))
  case atStart => exact ⟨true, _, es0, vO, rfl, HI0, HA0, .inl ⟨rfl, 9, rfl, HR, by show 8 < 9 + _; omega⟩⟩
  case round =>
    obtain ⟨ag, s, es, v, rfl, HI, HG, hcase⟩ := hrel
    clear HI0 HA0 HR
    cases ag
    · rcases hcase with ⟨h, _⟩ | ⟨_, hg0, HsR⟩
      · cases h
      have hsR := HsR.out
      subst hsR
      have HF : Hid (∃ es' vO', Ch w0 wr n8 n9 b (N0 + 4320) s.st es' vO' ∧ es'.map (·.p) = s.out ∧ es'.length ≤ es0.length + 8) := by
        obtain ⟨N, h1, h2⟩ := HI.out.ch
        have hc := M.cnt_le s.tk
        rw [HI.out.tl] at hc
        refine ⟨es, v, ⟨h2.below, h2.q8, h2.q9, h2.g8, h2.gb, h2.st.mono (by omega), h2.row, h2.parts⟩, HI.out.out, ?_⟩
        have := HI.out.len
        omega
      clear HI HsR
      go_wp2_with fail
      obtain ⟨es', vO', k1, k2, k3⟩ := HF.out
      refine bodyPost_end (v := .tuple #[]) (by simp [results, Try.results74, go_sem]) rfl ?_
      exact ⟨rfl, ⟨es', vO', k1, k2, k3, HG.out⟩⟩
    · obtain ⟨f, hgf, HRf, hf8⟩ : ∃ f, gk = f + 1 ∧ Hid (M.rounds parts f s = R) ∧ 8 < f + M.cnt s.tk := by
        rcases hcase with ⟨_, f, h1, h2, h3⟩ | ⟨h, _⟩
        · exact ⟨f, h1, h2, h3⟩
        · cases h
      clear hcase
      have hcn := M.cnt_le s.tk
      have HTl : Hid (s.tk.length = 8) := HI.out.tl
      rw [HI.out.tl] at hcn
      obtain ⟨f', hf'⟩ : ∃ f', f = f' + 1 := ⟨f - 1, by omega⟩
      obtain ⟨Wo, hWo⟩ : ∃ Wo, Wo = wr := ⟨_, rfl⟩
      subst hWo
      go_wp2_with fail
      go_loopw [7, 13] (fun s7 s13 wr => ∃ (i : Nat) (es : List PEnt) (v : Value), i ≤ parts.length ∧ s13 = .int .i64 i ∧ s7 = .bool (M.roundN parts s i).2 ∧ Hid (SI w0 wr n6 n8 n9 b N0 es0.length (M.roundN parts s i).1 es v) ∧ Hid (Ag w wr)) (fun _ s13 _ => parts.length - (intOf s13).toNat)
      case atStart => exact ⟨0, es, v, Nat.zero_le _, rfl, rfl, HI, HG⟩
      case round =>
        obtain ⟨i, es, v, hi, rfl, rfl, HJ, HGj⟩ := hrel
        clear HI HG
        by_cases hlt : i < parts.length
        · have HSt : Hid (M.roundN parts s (i + 1) = M.step parts (M.roundN parts s i) i) := rfl
          generalize M.roundN parts s i = T at *
          obtain ⟨t, ag⟩ := T
          simp only at HJ
          obtain ⟨N, hNb, hCh⟩ := HJ.out.ch
          obtain ⟨bp, off, a1, a2, c1, c2, hae, e0, e1, hf, hd⟩ := part_at HPa.out i hlt
          subst hae
          have hckp := HCk.out _ (getD_mem parts M.nil i hlt)
          have e0' := cell_later hCh.below e0
          have e1' := cell_later hCh.below e1
          have HFD : Hid (∀ W, Below w0.heap.size w0 W → FragsAt W (.slice a1 (parts.getD i M.nil).frags.length c1) (parts.getD i M.nil).frags ∧ DefsAt W (.slice a2 (parts.getD i M.nil).defs.length c2) (parts.getD i M.nil).defs) := fun W hW => ⟨hf.later hW, hd.later hW⟩
          have hfl : wr.cell? ⟨n6, i, none⟩ = some (.bool (t.tk.getD i false)) := by
            rw [cellB HJ.out.q6, List.getElem?_toArray, List.getElem?_map, getElem?_getD t.tk false i (by rw [HJ.out.tl]; omega)]
            rfl
          have hl6 : n6 < wr.heap.size := (Array.getElem?_eq_some_iff.1 HJ.out.q6).1
          have hbp : bp < wr.heap.size := World.block_lt_of_cell? _ _ e0'
          have hi8 : (i : Int) < 8 := by omega
          have hkl : (i : Int) < (parts.length : Int) := by omega
          have HSt2 : Hid (M.roundN parts s (i + 1) = if t.tk.getD i false = false ∧ M.partHelps t.st (parts.getD i M.nil) = true then ({ M.take t (parts.getD i M.nil) with tk := t.tk.set i true }, true) else (t, ag)) := HSt.out
          clear HSt hf hd e0 e1
          generalize parts.getD i M.nil = p at *
          have hAl : Below wr.heap.size wr (wr.alloc (.cells #[.slice a1 p.frags.length c1, .slice a2 p.defs.length c2] 25)) := (Below.refl _ _).alloc (Nat.le_refl _) _
          have HGl : Hid (Ag w (wr.alloc (.cells #[.slice a1 p.frags.length c1, .slice a2 p.defs.length c2] 25))) := HGj.out.trans (Ag.below hAl)
          have HJl : Hid (SI w0 (wr.alloc (.cells #[.slice a1 p.frags.length c1, .slice a2 p.defs.length c2] 25)) n6 n8 n9 b N0 es0.length t es v) := HJ.out.later hAl
          cases hfv : t.tk.getD i false
          · rw [hfv] at hfl HSt2
            have hq9 : (wr.alloc (.cells #[.slice a1 p.frags.length c1, .slice a2 p.defs.length c2] 25)).cell? ⟨n9, 0, none⟩ = some (.map (some b)) := cellB (hCh.later hAl).q9 0
            have KCn : Hid (Calls Try.prog 35 #[.slice a2 p.defs.length c2, .func (.func 75) #[] #[.pointer (some ⟨n9, 0, none⟩)]] (wr.alloc (.cells #[.slice a1 p.frags.length c1, .slice a2 p.defs.length c2] 25)) fun e w' => e = .returned (.bool (M.partHelps t.st p)) ∧ Below (wr.alloc (.cells #[.slice a1 p.frags.length c1, .slice a2 p.defs.length c2] 25)).heap.size (wr.alloc (.cells #[.slice a1 p.frags.length c1, .slice a2 p.defs.length c2] 25)) w') := containsHelps_any p.defs a2 c2 n9 b N t.st _ (HFD.out _ (hCh.later hAl).below).2 ⟨hq9, (hCh.later hAl).st⟩
            clear hq9
            generalize M.partHelps t.st p = hp at *
            cases hp
            · have HT : Hid (M.roundN parts s (i + 1) = (t, ag)) := by rw [Hid, HSt2.out, if_neg (by simp)]
              clear HSt2
              go_wp2_with (go_at_call 35; refine KCn.out.mono ?_; rintro e w3 ⟨rfl, hb3⟩)
              go_roundw
              case rel => exact ⟨i + 1, es, v, by omega, by go_num, by rw [HT.out], by rw [HT.out]; exact HJl.out.later hb3, HGl.out.trans (Ag.below hb3)⟩
              case measure => simp [intOf]; omega
            · have HT : Hid (M.roundN parts s (i + 1) = ({ M.take t p with tk := t.tk.set i true }, true)) := by rw [Hid, HSt2.out, if_pos ⟨rfl, rfl⟩]
              clear HSt2
              have hlen := HJ.out.len
              have hcc := M.cnt_le t.tk
              have htl := HJ.out.tl
              rw [htl] at hcc
              have KT : Hid (∀ W, Below (wr.alloc (.cells #[.slice a1 p.frags.length c1, .slice a2 p.defs.length c2] 25)).heap.size (wr.alloc (.cells #[.slice a1 p.frags.length c1, .slice a2 p.defs.length c2] 25)) W → Calls Try.prog 71 #[.agg #[.slice a1 p.frags.length c1, .slice a2 p.defs.length c2], .pointer (some ⟨n8, 0, none⟩), .pointer (some ⟨n9, 0, none⟩)] W fun e w' => e = .returned (.tuple #[]) ∧ ∃ vF vD vO', Ch w0 w' n8 n9 b (N + 540) (M.enter t.st p) (es ++ [⟨p, vF, vD⟩]) vO' ∧ Ag W w') := fun W hW => takeFn_any p a1 a2 c1 c2 n8 n9 b N t.st es v w0 W HFD.out hckp ((hCh.later hAl).later hW) (by omega) (by omega)
              go_wp2_with (first | (go_at_call 35; refine KCn.out.mono ?_; rintro e w3 ⟨rfl, hb3⟩; have k0 : w3.cell? ⟨wr.heap.size, 0, none⟩ = some (.slice a1 p.frags.length c1) := cell_later hb3 (cellB (heap_alloc_new wr _) 0); have k1 : w3.cell? ⟨wr.heap.size, 1, none⟩ = some (.slice a2 p.defs.length c2) := cell_later hb3 (cellB (heap_alloc_new wr _) 1)) | (go_at_call 71; refine (KT.out _ hb3).mono ?_; rintro e w4 ⟨rfl, vF, vD, vO', hC4, hA4⟩; have z6 := hA4 _ _ _ (HJl.out.later hb3).q6 (by decide) (by decide); have c6 : w4.cell? ⟨n6, i, none⟩ = some (.bool false) := (by rw [cellB z6, List.getElem?_toArray, List.getElem?_map, getElem?_getD t.tk false i (by rw [htl]; omega), hfv]; rfl); have f6 := frozenB z6 i))
              have HFin : Hid (SI w0 (w4.setCell ⟨n6, i, none⟩ (.bool true)) n6 n8 n9 b N0 es0.length { M.take t p with tk := t.tk.set i true } (es ++ [⟨p, vF, vD⟩]) vO') := by
                have hcs := M.cnt_set t.tk i (by rw [htl]; omega) hfv
                refine ⟨⟨N + 540, ?_, hC4.setB z6 (by omega)⟩, ?_, ?_, ?_, ?_⟩
                · show N + 540 ≤ N0 + 540 * M.cnt (t.tk.set i true)
                  rw [hcs]; omega
                · show _ = t.out ++ [p]
                  rw [List.map_append, HJ.out.out]; rfl
                · show _ ≤ es0.length + M.cnt (t.tk.set i true)
                  rw [hcs, List.length_append]
                  simp
                  omega
                · show _ = some (Obj.cells ((t.tk.set i true).map Value.bool).toArray 152 (0, 0))
                  rw [setB' z6, List.map_set]
                  simp
                · show (t.tk.set i true).length = 8
                  rw [List.length_set]; exact htl
              have HGf : Hid (Ag w (w4.setCell ⟨n6, i, none⟩ (.bool true))) := by
                intro k cs t hk h1 h2
                have hkn : k < w.heap.size := (Array.getElem?_eq_some_iff.1 hk).1
                rw [Below.heap_setCell _ _ _ _ (by show k ≠ n6; omega)]
                exact ((HGl.out.trans (Ag.below hb3)).trans hA4) k cs t hk h1 h2
              clear hC4 hA4 z6 c6 f6 hb3 k0 k1
              go_roundw
              case rel => exact ⟨i + 1, _, vO', by omega, by go_num, by rw [HT.out], by rw [HT.out]; exact HFin.out, HGf⟩
              case measure => simp [intOf]; omega
          · rw [hfv] at hfl HSt2
            have HT : Hid (M.roundN parts s (i + 1) = (t, ag)) := by rw [Hid, HSt2.out, if_neg (by simp)]
            clear HSt2
            go_wp2_with fail
            go_roundw
            case rel => exact ⟨i + 1, es, v, by omega, by go_num, by rw [HT.out], by rw [HT.out]; exact HJl.out, HGl⟩
            case measure => simp [intOf]; omega
        · obtain rfl : i = parts.length := by omega
          have HRd : Hid (M.roundN parts s parts.length = M.round parts s) := rfl
          have HRf' : Hid ((if (M.round parts s).2 then M.rounds parts f' (M.round parts s).1 else (M.round parts s).1) = R) := by have := HRf.out; rw [hf'] at this; exact this
          have HCn : Hid ((M.round parts s).2 = true → M.cnt s.tk + 1 ≤ M.cnt (M.round parts s).1.tk) := (M.roundN_cnt parts s parts.length (by rw [HTl.out]; exact h8)).2
          rw [HRd.out] at HJ ⊢
          clear HRf HRd
          generalize M.round parts s = T at *
          obtain ⟨t, ag⟩ := T
          simp only at HJ HRf' HCn
          cases ag
          · have HRe : Hid (t = R) := HRf'.out
            clear HRf' HCn
            go_wp2_with fail
            go_roundg 0
            case measure => omega
            case rel => exact ⟨false, t, es, v, rfl, HJ, HGj, .inr ⟨rfl, rfl, HRe⟩⟩
          · have HRe : Hid (M.rounds parts f' t = R) := HRf'.out
            have hcn' := HCn.out rfl
            clear HRf' HCn
            go_wp2_with fail
            go_roundg (f' + 1)
            case measure => omega
            case rel => exact ⟨true, t, es, v, rfl, HJ, HGj, .inl ⟨rfl, f', rfl, HRe, by omega⟩⟩

end Go.Proofs.Ytebhbhbhcoijpaa
