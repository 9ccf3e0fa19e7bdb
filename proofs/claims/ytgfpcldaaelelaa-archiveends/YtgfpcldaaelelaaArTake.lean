/-
  What Choose has in memory; the contract of Choose's first function: a part is taken.
-/
import Derived.Test.YtgfpcldaaelelaaArHelps
import Derived.Test.YtgfpcldaaelelaaArCopied
namespace Go.Proofs.Ytgfpcldaaelelaa
open Go Go.RowKit
set_option linter.unusedVariables false

theorem step_call1 {P : Program} {w : World} {ops : Array Oper} {o : Oper} {a : Act} {K : Act → World → Prop} {Q : Exit → Act → World → Prop} {E : Prop} (hgd : o.guard = none) (f : FuncId) (x : Operand) (t : TypeId)
    (ho : o.op = .call { callee := .value (.func f), args := #[x], argTypes := #[t] }) (v : Value) (hx : a.eval x = v) (he : ∀ args w, (callFunc f args).run P w = .ok (.enter f args) w) {post : Ending → World → Prop} (hc : Calls P f #[v] w post)
    (h : ∀ e w', post e w' → ∃ u, e = .returned u ∧ K (a.put o.dst u) w') : if Region.wanted o (yielded ops a.tmps) = true then Oper.wp P o a w K Q else E := by
  have hw : Region.wanted o (yielded ops a.tmps) = true := by simp [Region.wanted, hgd]
  rw [if_pos hw]
  have hrun : (execOp a.eval o).run P w = .ok (.enter f #[v]) w := by
    simp only [execOp, ho, resolve, invoke, Sem.run_bind, List.map_toArray, List.map_cons, List.map_nil, hx]
    simp [Act.eval, he, go_sem]
  unfold Oper.wp
  rw [hrun, Oper.upon_enter]
  refine hc.mono fun e w' hp => ?_
  obtain ⟨u, rfl, hk⟩ := h e w' hp
  exact hk

theorem step_append_src {P : Program} {w : World} {ops : Array Oper} {o : Oper} {a : Act} {K : Act → World → Prop} {Q : Exit → Act → World → Prop} {E : Prop} (hgd : o.guard = none) (s x : Operand) (t : TypeId)
    (ho : o.op = .call { callee := .builtin .append, args := #[s, x], argTypes := #[t, t] })
    (base : Nat) (e : TypeId) (i : TypeInfo) (z : Value) (size bytes : Nat) (ht : P.underlying t = some (.slice e)) (hi : P.info? e = some i) (hz : i.zero = some z)
    (hsize : i.size = size) (hby : i.bytes = bytes) (hzs : z.cells.size = size) (hsz : 0 < size)
    (v : Value) (n : Nat) (xs : List Value) (hs : a.eval s = v) (hown : w.ownsRow base e size v n xs)
    (u : Value) (m : Nat) (news : List Value) (hx : a.eval x = u) (hsrc : Src w u m news) (hl : news.length = m * size) (h1 : ∀ u ∈ news, u.oneCell' = true)
    (h63 : n + m ≤ maxLen) (hbytes : (n + m) * bytes ≤ 140737488355328) (hbase : base ≤ w.heap.size)
    (h : ∀ v' w', w'.ownsRow base e size v' (n + m) (xs ++ news) → w.grownBy w' v.ownBlock → K (a.put o.dst v') w') : if Region.wanted o (yielded ops a.tmps) = true then Oper.wp P o a w K Q else E := by
  have hw : Region.wanted o (yielded ops a.tmps) = true := by simp [Region.wanted, hgd]
  rw [if_pos hw]
  exact wp_append_src w s x t ho base e i z size bytes ht hi hz hsize hby hzs hsz v n xs hs hown u m news hx hsrc hl h1 h63 hbytes hbase h

/-- a part that was taken, with the two slices that it holds -/
structure PEnt where
  p : M.Prt
  vF : Value
  vD : Value
def pentCells (e : PEnt) : List Value := [e.vF, e.vD]

/-- a part of one's own -/
def POwn (W : World) (B : Nat) (e : PEnt) : Prop := ∃ ents, PR W B ents e.p.defs e.vF e.vD ∧ ents.map (·.f) = e.p.frags

theorem PR.keptM {w w' : World} {B b N : Nat} {es : List Ent} {ds : List M.Dfn} {vF vD : Value} {st : M.St} (h : PR w B es ds vF vD) (hs : StAt w b N st) (hg : w.grownBy w' (some b)) : PR w' B es ds vF vD :=
  ⟨h.rowF.kept hg (row_st h.rowF hs), h.rowD.kept hg (row_st h.rowD hs), fun e he => (h.bytes e he).kept hg (row_st (h.bytes e he) hs), h.small, h.smallD, fun e he => (h.rels e he).kept hg (row_st (h.rels e he) hs)⟩

theorem PR.keptR {w w' : World} {B B' n : Nat} {es : List Ent} {ds : List M.Dfn} {vF vD v : Value} {xs : List Value} (h : PR w B es ds vF vD) (hr : w.ownsRow B' 25 2 v n xs) (hg : w.grownBy w' v.ownBlock) : PR w' B es ds vF vD :=
  ⟨h.rowF.kept hg (own_apart h.rowF hr (by decide)), h.rowD.kept hg (own_apart h.rowD hr (by decide)), fun e he => (h.bytes e he).kept hg (own_apart (h.bytes e he) hr (by decide)), h.small, h.smallD, fun e he => (h.rels e he).kept hg (own_apart (h.rels e he) hr (by decide))⟩

theorem PR.setS {w : World} {B b i : Nat} {es : List Ent} {ds : List M.Dfn} {vF vD u : Value} {cs : Array Value} (h : PR w B es ds vF vD) (hb : w.heap[b]? = some (.cells cs 26 (0, 0))) : PR (w.setCell ⟨b, i, none⟩ u) B es ds vF vD :=
  ⟨row_setc h.rowF hb (by decide), row_setc h.rowD hb (by decide), fun e he => row_setc (h.bytes e he) hb (by decide), h.small, h.smallD, fun e he => row_setc (h.rels e he) hb (by decide)⟩

/-- what Choose has in memory -/
structure Ch (w0 W : World) (n8 n9 b N : Nat) (st : M.St) (es : List PEnt) (vO : Value) : Prop where
  below : Below w0.heap.size w0 W
  q8 : W.heap[n8]? = some (.cells #[vO] 26 (0, 0))
  q9 : W.heap[n9]? = some (.cells #[.map (some b)] 61 (0, 0))
  g8 : w0.heap.size ≤ n8
  gb : w0.heap.size ≤ b
  st : StAt W b N st
  row : W.ownsRow w0.heap.size 25 2 vO es.length (es.flatMap pentCells)
  parts : ∀ e ∈ es, POwn W w0.heap.size e

theorem Ch.later {w0 W X : World} {n8 n9 b N : Nat} {st : M.St} {es : List PEnt} {vO : Value} (h : Ch w0 W n8 n9 b N st es vO) (hb : Below W.heap.size W X) : Ch w0 X n8 n9 b N st es vO :=
  ⟨h.below.trans (hb.mono h.below.size), (hb.block _ (Array.getElem?_eq_some_iff.1 h.q8).1).trans h.q8, (hb.block _ (Array.getElem?_eq_some_iff.1 h.q9).1).trans h.q9, h.g8, h.gb, h.st.later hb,
   h.row.kept (grown_of_below hb none) own_self, fun e he => let ⟨en, h1, h2⟩ := h.parts e he; ⟨en, h1.later hb, h2⟩⟩

theorem Ch.mapped {w0 W X : World} {n8 n9 b N N' : Nat} {st st' : M.St} {es : List PEnt} {vO : Value} (h : Ch w0 W n8 n9 b N st es vO) (hg : W.grownBy X (some b)) (hs : StAt X b N' st') : Ch w0 X n8 n9 b N' st' es vO :=
  ⟨h.below.grown hg h.below.size (fun k hk => by cases hk; exact h.gb), block_st h.st hg h.q8, block_st h.st hg h.q9, h.g8, h.gb, hs,
   h.row.kept hg (row_st h.row h.st), fun e he => let ⟨en, h1, h2⟩ := h.parts e he; ⟨en, h1.keptM h.st hg, h2⟩⟩

theorem Ch.push {w0 W w5 : World} {n8 n9 b N : Nat} {st : M.St} {es : List PEnt} {vO v' : Value} {e : PEnt} (h : Ch w0 W n8 n9 b N st es vO) (he : POwn W w0.heap.size e) (hg : W.grownBy w5 vO.ownBlock)
    (hrow : w5.ownsRow w0.heap.size 25 2 v' (es.length + 1) (es.flatMap pentCells ++ pentCells e)) : Ch w0 (w5.setCell ⟨n8, 0, none⟩ v') n8 n9 b N st (es ++ [e]) v' := by
  have z8 := block_kept h.row hg h.q8 (by decide)
  have z9 := block_kept h.row hg h.q9 (by decide)
  have hne : n9 ≠ n8 := fun e => by
    have := h.q9
    rw [e, h.q8] at this
    cases this
  have hst : StAt w5 b N st := h.st.kept hg (fun e => by
    rcases row_st h.row h.st with h1 | h1
    · rw [h1] at e; cases e
    · exact h1 e)
  have hst2 : StAt (w5.setCell ⟨n8, 0, none⟩ v') b N st := hst.kept (grown_set w5 n8 0 v') (fun e => by
    cases e
    obtain ⟨_, _, _, ⟨es', clock, hm, _⟩, _⟩ := hst
    rw [hm] at z8
    cases z8)
  refine ⟨(h.below.grown hg h.below.size (fun k hk => (h.row.lt k hk).1)).setCell h.g8 _, setB' z8 v', (Below.heap_setCell _ _ _ _ hne).trans z9, h.g8, h.gb, hst2, ?_, fun x hx => ?_⟩
  · rw [List.length_append, List.flatMap_append]
    have := row_setc hrow z8 (i := 0) (u := v') (by decide)
    simpa [List.flatMap_cons] using this
  · have hx' : POwn W w0.heap.size x := by
      rcases List.mem_append.1 hx with hx | hx
      · exact h.parts x hx
      · rw [List.mem_singleton.1 hx]; exact he
    obtain ⟨en, h1, h2⟩ := hx'
    exact ⟨en, (h1.keptR h.row hg).setS z8, h2⟩

/-- blocks that hold neither parts nor slices of parts are as they were -/
def Ag (w w' : World) : Prop := ∀ (k : Nat) (cs : Array Value) (t : TypeId), w.heap[k]? = some (Obj.cells cs t (0, 0)) → t ≠ 25 → t ≠ 26 → w'.heap[k]? = some (Obj.cells cs t (0, 0))
theorem Ag.refl (w : World) : Ag w w := fun _ _ _ h _ _ => h
theorem Ag.trans {w w' w'' : World} (h : Ag w w') (h' : Ag w' w'') : Ag w w'' := fun k cs t hk h1 h2 => h' k cs t (h k cs t hk h1 h2) h1 h2
theorem Ag.below {w w' : World} (h : Below w.heap.size w w') : Ag w w' := fun k cs t hk _ _ => (h.block k (Array.getElem?_eq_some_iff.1 hk).1).trans hk
theorem Ag.map {w w' : World} {b N : Nat} {st : M.St} (hs : StAt w b N st) (hg : w.grownBy w' (some b)) : Ag w w' := fun k cs t hk _ _ => block_st hs hg hk

theorem own_one {w : World} {B k n : Nat} {e : TypeId} {v : Value} {xs : List Value} (h : w.ownsRow B e k v n xs) : v.oneCell' = true := by
  obtain ⟨a, c, rfl⟩ := own_len h
  rfl

theorem room_of {p : M.Prt} (h : M.Ok p) : Room p := room_ok h

set_option maxHeartbeats 8000000 in
set_option maxRecDepth 100000 in
theorem takeFn_any (p : M.Prt) (a1 a2 : Option Addr) (c1 c2 n8 n9 b N : Nat) (st : M.St) (es : List PEnt) (vO : Value) (w0 w : World) (hfd : ∀ W, Below w0.heap.size w0 W → FragsAt W (.slice a1 p.frags.length c1) p.frags ∧ DefsAt W (.slice a2 p.defs.length c2) p.defs) (hck : M.checkPart p = 0)
    (hC : Ch w0 w n8 n9 b N st es vO) (hN : N + 540 ≤ 1000000000) (hes : es.length ≤ 1000) :
    Calls Try.prog 27 #[.agg #[.slice a1 p.frags.length c1, .slice a2 p.defs.length c2], .pointer (some ⟨n8, 0, none⟩), .pointer (some ⟨n9, 0, none⟩)] w fun e w' => e = .returned (.tuple #[]) ∧ ∃ vF vD vO', Ch w0 w' n8 n9 b (N + 540) (M.enter st p) (es ++ [⟨p, vF, vD⟩]) vO' ∧ Ag w w' := by
  obtain ⟨i0, hi0, hz0, hz1, hz2⟩ := info_parts (P := Try.prog) (e := 25) (z := .agg #[.slice none 0 0, .slice none 0 0]) (size := 2) (bytes := 48) (by kernel_rfl)
  have eg : ∀ args w, (callFunc 28 args).run Try.prog w = .ok (.enter 28 args) w := enters_of Try.func28 (by kernel_rfl) rfl
  have hok := (M.ok_iff p).1 hck
  obtain ⟨aO, cO, rfl⟩ := own_len hC.row
  have hA : Below w.heap.size w (w.alloc (.cells #[.slice a1 p.frags.length c1, .slice a2 p.defs.length c2] 25)) := (Below.refl _ _).alloc (Nat.le_refl _) _
  have HX := hC.later hA
  have HLt : Hid (∀ k, (Value.slice aO es.length cO).ownBlock = some k → k < w.heap.size) := fun k hk => (hC.row.lt k hk).2
  have HFd : Hid (∀ W, Below w0.heap.size w0 W → FragsAt W (.slice a1 p.frags.length c1) p.frags ∧ DefsAt W (.slice a2 p.defs.length c2) p.defs) := hfd
  have hwb := hC.below
  obtain ⟨hf, hd⟩ := hfd w hwb
  have hq := heap_alloc_new w (.cells #[.slice a1 p.frags.length c1, .slice a2 p.defs.length c2] 25)
  have KC : Hid (∀ W, Below (w.alloc (.cells #[.slice a1 p.frags.length c1, .slice a2 p.defs.length c2] 25)).heap.size (w.alloc (.cells #[.slice a1 p.frags.length c1, .slice a2 p.defs.length c2] 25)) W → Calls Try.prog 28 #[.agg #[.slice a1 p.frags.length c1, .slice a2 p.defs.length c2]] W fun e w' => Below W.heap.size W w' ∧ ∃ en vF vD, e = .returned (.agg #[vF, vD]) ∧ PR w' W.heap.size en p.defs vF vD ∧ en.map (·.f) = p.frags ∧ en.Pairwise Apart) := fun W hW => copied_any p a1 a2 c1 c2 W ((hf.later hA).later hW) ((hd.later hA).later hW) (room_of hok)
  clear hf hd hC hok hfd hwb
  go_enter Try.func27, Try.ntmps27
  go_upto_region 1 with fail
  generalize w.alloc (.cells #[.slice a1 p.frags.length c1, .slice a2 p.defs.length c2] 25) = X at *
  have hlX : w.heap.size < X.heap.size := (Array.getElem?_eq_some_iff.1 hq).1
  have q0 : X.cell? ⟨w.heap.size, 0, none⟩ = some (.slice a1 p.frags.length c1) := cellB hq 0
  have q1 : X.cell? ⟨w.heap.size, 1, none⟩ = some (.slice a2 p.defs.length c2) := cellB hq 1
  have o8 : X.cell? ⟨n8, 0, none⟩ = some (.slice aO es.length cO) := cellB HX.q8 0
  have hl8 : n8 < X.heap.size := (Array.getElem?_eq_some_iff.1 HX.q8).1
  have HXh : Hid (Ch w0 X n8 n9 b N st es (.slice aO es.length cO)) := HX
  clear HX
  go_cut [] (fun wx => ∃ vF vD vO', Ch w0 wx n8 n9 b N st (es ++ [⟨p, vF, vD⟩]) vO' ∧ wx.heap[w.heap.size]? = some (.cells #[.slice a1 p.frags.length c1, .slice a2 p.defs.length c2] 25 (0, 0)) ∧ Ag X wx)
  case first =>
    have HRow : Hid (∀ W, Below X.heap.size X W → W.ownsRow w0.heap.size 25 2 (.slice aO es.length cO) es.length (es.flatMap pentCells) ∧ w0.heap.size ≤ W.heap.size) := fun W hW => ⟨(HXh.out.later hW).row, (HXh.out.later hW).below.size⟩
    have H8 : Hid (∀ W w5, Below X.heap.size X W → W.grownBy w5 (Value.slice aO es.length cO).ownBlock → w5.heap[n8]? = some (.cells #[.slice aO es.length cO] 26 (0, 0))) := fun W w5 hW hg => block_kept (HXh.out.later hW).row hg (HXh.out.later hW).q8 (by decide)
    have HAg : Hid (∀ W w5 u, Below X.heap.size X W → W.grownBy w5 (Value.slice aO es.length cO).ownBlock → Ag X (w5.setCell ⟨n8, 0, none⟩ u)) := fun W w5 u hW hg => by
      intro k cs t hk h1 h2
      have hne : k ≠ n8 := fun e => by
        have := HXh.out.q8
        rw [← e, hk] at this
        cases this
        exact h2 rfl
      rw [Below.heap_setCell _ _ _ _ hne]
      exact block_kept (HXh.out.later hW).row hg ((hW.block k (Array.getElem?_eq_some_iff.1 hk).1).trans hk) (fun e => h1 e.symm)
    have HQ : Hid (∀ W w5 u, Below X.heap.size X W → W.grownBy w5 (Value.slice aO es.length cO).ownBlock → (w5.setCell ⟨n8, 0, none⟩ u).heap[w.heap.size]? = some (.cells #[.slice a1 p.frags.length c1, .slice a2 p.defs.length c2] 25 (0, 0))) := fun W w5 u hW hg => by
      have hne : w.heap.size ≠ n8 := fun e => by
        have := HXh.out.q8
        rw [← e, hq] at this
        simp at this
      rw [Below.heap_setCell _ _ _ _ hne, hg.block w.heap.size (Nat.lt_of_lt_of_le hlX hW.size) (fun e => Nat.lt_irrefl _ (HLt.out _ e.symm)), hW.block _ hlX]
      exact hq
    go_region_law (first | (refine step_call1 (by rfl) 28 (.tmp 5) 25 (by rfl) _ (by rfl) eg (KC.out _ (Below.refl _ _).drew) ?_; rintro e w3 ⟨hb3, en, vF, vD, rfl, hP, hen, _⟩; refine ⟨_, rfl, ?_⟩; have hX3 : Below X.heap.size X w3 := ((Below.refl _ _).drew).trans hb3; have o8' : w3.cell? ⟨n8, 0, none⟩ = some (.slice aO es.length cO) := cell_later hX3 o8; have hl8' : n8 < w3.heap.size := Nat.lt_of_lt_of_le hl8 hX3.size; have hA3 := hX3.alloc hX3.size (.cells #[vF, vD] 25); have hsrc : Src (w3.alloc (.cells #[vF, vD] 25)) (.slice (some ⟨w3.heap.size, 0, none⟩) 1 1) 1 [vF, vD] := ⟨_, _, rfl, .inr ⟨_, rfl, World.news_of_block (heap_alloc_new w3 (.cells #[vF, vD] 25))⟩⟩) | (refine step_append_src (by rfl) (.tmp 4) (.tmp 7) 26 (by rfl) w0.heap.size 25 i0 (.agg #[.slice none 0 0, .slice none 0 0]) 2 48 Try.underlying26 hi0 hz0 hz1 hz2 rfl (by decide) _ _ _ (by rfl) (HRow.out _ hA3).1 _ 1 [vF, vD] (by rfl) hsrc (by rfl) (fun u hu => by simp at hu; rcases hu with rfl | rfl; exact own_one hP.rowF; exact own_one hP.rowD) (by unfold maxLen; omega) (by omega) (HRow.out _ hA3).2 ?_; intro v5 w5 ho5 hg5; have z8 := H8.out _ _ hA3 hg5; have c8 : w5.cell? ⟨n8, 0, none⟩ = some (.slice aO es.length cO) := cellB z8 0; have f8 := frozenB z8 0; obtain ⟨a5, c5, rfl⟩ := own_len ho5))
    all_goals
      go_wp2_with fail
      go_meet
      have hfin := (HXh.out.later hA3).push (e := ⟨p, vF, vD⟩) ⟨en, (hP.base (by exact HXh.out.below.size)).later ((Below.refl _ _).alloc (Nat.le_refl _) _), hen⟩ hg5 ho5
      exact ⟨vF, vD, _, hfin, HQ.out _ _ _ hA3 hg5, HAg.out _ _ _ hA3 hg5⟩
  case rest =>
    obtain ⟨vF, vD, vO', hC, hqx, hag⟩ := hcut
    have HAg : Hid (Ag w wc) := (Ag.below hA).trans hag
    clear hag
    obtain ⟨hf, hd⟩ := HFd.out _ hC.below
    have KE : Hid (Calls Try.prog 29 #[.map (some b), .agg #[.slice a1 p.frags.length c1, .slice a2 p.defs.length c2]] wc fun e w' => e = .returned (.tuple #[]) ∧ StAt w' b (N + 540) (M.enter st p) ∧ wc.grownBy w' (some b)) := enter_any p a1 a2 c1 c2 b N st wc hf hd hck hC.st hN
    have k0 : wc.cell? ⟨w.heap.size, 0, none⟩ = some (.slice a1 p.frags.length c1) := cellB hqx 0
    have k1 : wc.cell? ⟨w.heap.size, 1, none⟩ = some (.slice a2 p.defs.length c2) := cellB hqx 1
    have k9 : wc.cell? ⟨n9, 0, none⟩ = some (.map (some b)) := cellB hC.q9 0
    have HC : Hid (Ch w0 wc n8 n9 b N st (es ++ [⟨p, vF, vD⟩]) vO') := hC
    clear hC hqx hf hd HXh KC q0 q1 o8 hl8 hlX hq hA HLt HFd
    go_wp2_with (go_at_call 29; refine KE.out.mono ?_; rintro e w6 ⟨rfl, hS6, hg6⟩)
    refine bodyPost_end (v := .tuple #[]) (by simp [results, Try.results27, go_sem]) rfl ?_
    exact ⟨rfl, vF, vD, vO', HC.out.mapped hg6 hS6, HAg.out.trans (Ag.map HC.out.st hg6)⟩

end Go.Proofs.Ytgfpcldaaelelaa
