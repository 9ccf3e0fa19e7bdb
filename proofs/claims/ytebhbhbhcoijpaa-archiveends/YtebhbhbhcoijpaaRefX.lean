/-
  Appending to a slice that has nothing and no room; fragments whose lists of places lie apart; a part's numbers stay within what memory holds. The contract of the reference's OwnPart: a part in memory of its own. The contract of archive.copied: a part in memory of its own.
-/
import Derived.Test.YtebhbhbhcoijpaaPrtJoin
import Derived.Deep.AppendLies
import Derived.Deep.RegionHeld3

namespace Go.Proofs.Ytebhbhbhcoijpaa
open Go Go.RowKit
set_option linter.unusedVariables false

theorem own_empty {w : World} {N g k : Nat} {e : TypeId} (hg : w.heap[g]? = some (.cells #[] e (0, 0))) (hN : N ≤ g) : w.ownsRow N e k (.slice (some ⟨g, 0, none⟩) 0 0) 0 [] :=
  ⟨by simp, .inr ⟨g, 0, #[], rfl, hN, hg, Nat.le_refl _, Nat.zero_le _, by simp, by simp⟩⟩

theorem step_append_empty {P : Program} {w : World} {ops : Array Oper} {o : Oper} {a : Act} {K : Act → World → Prop} {Q : Exit → Act → World → Prop} {E : Prop} (hgd : o.guard = none) (s x : Operand) (t : TypeId)
    (ho : o.op = .call { callee := .builtin .append, args := #[s, x], argTypes := #[t, t] })
    (N : Nat) (e : TypeId) (i : TypeInfo) (z : Value) (size bytes : Nat) (ht : P.underlying t = some (.slice e)) (hi : P.info? e = some i) (hz : i.zero = some z)
    (hsize : i.size = size) (hby : i.bytes = bytes) (hzs : z.cells.size = size) (hsz : 0 < size)
    (g : Nat) (hs : a.eval s = .slice (some ⟨g, 0, none⟩) 0 0) (hg : w.heap[g]? = some (.cells #[] e (0, 0))) (hN : N ≤ g)
    (u : Value) (m : Nat) (news : List Value) (hx : a.eval x = u) (hsrc : Src w u m news) (hl : news.length = m * size) (h1 : ∀ u ∈ news, u.oneCell' = true)
    (h63 : m ≤ maxLen) (hbytes : m * bytes ≤ 140737488355328)
    (h : ∀ v' w', w'.ownsRow N e size v' m news → w.grownBy w' (some g) → K (a.put o.dst v') w') :
    if Region.wanted o (yielded ops a.tmps) = true then Oper.wp P o a w K Q else E := by
  have hw : Region.wanted o (yielded ops a.tmps) = true := by simp [Region.wanted, hgd]
  rw [if_pos hw]
  have hlt := (Array.getElem?_eq_some_iff.1 hg).1
  refine wp_append_src w s x t ho N e i z size bytes ht hi hz hsize hby hzs hsz _ 0 [] hs (own_empty hg hN) u m news hx hsrc hl h1 (by omega) (by rw [Nat.zero_add]; exact hbytes) (by omega) fun v' w' h2 h3 => ?_
  rw [Nat.zero_add, List.nil_append] at h2
  exact h v' w' h2 h3

/-- two lists of places lie apart -/
def Apart (a b : Ent) : Prop := a.rv.ownBlock = none ∨ b.rv.ownBlock = none ∨ a.rv.ownBlock ≠ b.rv.ownBlock

theorem flat_len {α : Type} (k : Nat) (f : α → List Value) (hf : ∀ x, (f x).length = k) : ∀ l : List α, (l.flatMap f).length = l.length * k
  | [] => by simp
  | x :: l => by rw [List.flatMap_cons, List.length_append, flat_len k f hf l, hf, List.length_cons, Nat.add_mul]; omega

theorem RelsAt.src {w : World} {v : Value} {rs : List M.Rel} (h : RelsAt w v rs) : Src w v rs.length (rs.flatMap encRel) :=
  h.1.src (by decide) _ (flat_len 5 encRel (fun _ => rfl) rs) (fun j i hj hi => by
    rw [flat_get 5 encRel (fun _ => rfl) rs j i hi, getElem?_getD rs rel0 j hj]
    rcases (by omega : i = 0 ∨ i = 1 ∨ i = 2 ∨ i = 3 ∨ i = 4) with rfl | rfl | rfl | rfl | rfl <;> rfl)

theorem DefsAt.src {w : World} {v : Value} {ds : List M.Dfn} (h : DefsAt w v ds) : Src w v ds.length (ds.flatMap encDfn) :=
  h.1.src (by decide) _ (flat_len 6 encDfn (fun _ => rfl) ds) (fun j i hj hi => by
    rw [flat_get 6 encDfn (fun _ => rfl) ds j i hi, getElem?_getD ds dfn0 j hj]
    rcases (by omega : i = 0 ∨ i = 1 ∨ i = 2 ∨ i = 3 ∨ i = 4 ∨ i = 5) with rfl | rfl | rfl | rfl | rfl | rfl <;> rfl)

theorem rels_one (rs : List M.Rel) : ∀ u ∈ rs.flatMap encRel, u.oneCell' = true := by
  intro u hu
  obtain ⟨d, _, hu⟩ := List.mem_flatMap.1 hu
  unfold encRel at hu
  simp only [List.mem_cons, List.not_mem_nil, or_false] at hu
  rcases hu with rfl | rfl | rfl | rfl | rfl <;> rfl

theorem bytes_one (bs : List Int) : ∀ u ∈ bs.map (Value.int .u8), u.oneCell' = true := by
  intro u hu
  obtain ⟨b, _, rfl⟩ := List.mem_map.1 hu
  rfl

/-- what can be copied -/
structure Room (p : M.Prt) : Prop where
  nf : p.frags.length * 88 ≤ 140737488355328
  nd : p.defs.length * 56 ≤ 140737488355328
  bytes : ∀ f ∈ p.frags, f.bytes.length ≤ 140737488355328
  rels : ∀ f ∈ p.frags, f.rels.length * 48 ≤ 140737488355328

theorem room_ok {p : M.Prt} (h : M.Ok p) : Room p := by
  have h1 := h.nf
  have h2 := h.nd
  refine ⟨by omega, by omega, fun f hf => ?_, fun f hf => ?_⟩
  · have := (len_ok f (h.shape f hf)).1; omega
  · have := (len_ok f (h.shape f hf)).2; omega

end Go.Proofs.Ytebhbhbhcoijpaa

namespace Go.Proofs.Ytebhbhbhcoijpaa
open Go Go.RowKit
set_option linter.unusedVariables false

structure OInv (w wr : World) (va : Array Value) (es : List Ent) (gs : List M.Dfn) (vF vD : Value) : Prop where
  q0 : wr.heap[w.heap.size]? = some (.cells va 25 (0, 0))
  q1 : wr.heap[w.heap.size + 1]? = some (.cells #[.slice none 0 0, .slice none 0 0] 25 (0, 0))
  q2 : wr.heap[w.heap.size + 2]? = some (.cells #[vF, vD] 25 (0, 0))
  pr : PR wr w.heap.size es gs vF vD
  ap : es.Pairwise Apart
  below : Below w.heap.size w wr

theorem OInv.later {w wr X : World} {va : Array Value} {es : List Ent} {gs : List M.Dfn} {vF vD : Value} (h : OInv w wr va es gs vF vD) (hb : Below wr.heap.size wr X) : OInv w X va es gs vF vD :=
  ⟨(hb.block _ (Array.getElem?_eq_some_iff.1 h.q0).1).trans h.q0, (hb.block _ (Array.getElem?_eq_some_iff.1 h.q1).1).trans h.q1, (hb.block _ (Array.getElem?_eq_some_iff.1 h.q2).1).trans h.q2, h.pr.later hb, h.ap, h.below.trans (hb.mono h.below.size)⟩

theorem grown_fresh {X W W' : World} {g : Nat} (hb : Below X.heap.size X W) (hg : W.grownBy W' (some g)) (hN : X.heap.size ≤ g) : Below X.heap.size X W' := hb.grown hg hb.size (fun k hk => by cases hk; exact hN)

theorem keep_block {W W' : World} {g gg : Nat} {e t : TypeId} {cs' cs : Array Value} (hg : W.grownBy W' (some g)) (hb : W.heap[g]? = some (.cells cs' e (0, 0))) (h : W.heap[gg]? = some (.cells cs t (0, 0))) (hne : e ≠ t) : W'.heap[gg]? = some (.cells cs t (0, 0)) := by
  rw [hg.block gg (Array.getElem?_eq_some_iff.1 h).1 (fun he => ?_)]
  · exact h
  · cases he
    rw [hb] at h
    cases h
    exact hne rfl

/-- both lists are the fragment's own -/
structure OwnF (wr wx : World) (nf N : Nat) (f : M.Frg) (bv rv : Value) : Prop where
  blk : wx.heap[nf]? = some (.cells #[.int .i64 f.sect, .int .i64 f.align, .string f.group, bv, .int .i64 f.size, rv] 43 (0, 0))
  bytes : wx.ownsRow N 5 1 bv f.bytes.length (f.bytes.map (Value.int .u8))
  rels : wx.ownsRow N 121 5 rv f.rels.length (f.rels.flatMap encRel)
  below : Below wr.heap.size wr wx

theorem own_fin {wr X Wf : World} {nf : Nat} {f : M.Frg} {bv rv u3 u5 : Value} (hbX : Below wr.heap.size wr X) (hnf : wr.heap.size ≤ nf) (hXf : Below X.heap.size X Wf)
    (xf : X.heap[nf]? = some (.cells #[.int .i64 f.sect, .int .i64 f.align, .string f.group, u3, .int .i64 f.size, u5] 43 (0, 0)))
    (hoB : Wf.ownsRow X.heap.size 5 1 bv f.bytes.length (f.bytes.map (Value.int .u8))) (hoR : Wf.ownsRow X.heap.size 121 5 rv f.rels.length (f.rels.flatMap encRel)) :
    OwnF wr ((Wf.setCell ⟨nf, 3, none⟩ bv).setCell ⟨nf, 5, none⟩ rv) nf X.heap.size f bv rv := by
  have y := (hXf.block _ (Array.getElem?_eq_some_iff.1 xf).1).trans xf
  have y1 : (Wf.setCell ⟨nf, 3, none⟩ bv).heap[nf]? = some (.cells #[.int .i64 f.sect, .int .i64 f.align, .string f.group, bv, .int .i64 f.size, u5] 43 (0, 0)) := setB' y bv
  exact ⟨setB' y1 rv, row_setc (row_setc hoB y (by decide)) y1 (by decide), row_setc (row_setc hoR y (by decide)) y1 (by decide), ((hbX.trans (hXf.mono hbX.size)).setCell hnf _).setCell hnf _⟩

/-- rows, one made ahead of the other -/
theorem own_ahead {w w' : World} {B B' k n k' n' : Nat} {e e' : TypeId} {v v' : Value} {xs xs' : List Value} (h : w.ownsRow B e k v n xs) (h' : w'.ownsRow B' e' k' v' n' xs') (hB : w.heap.size ≤ B') : v.ownBlock = none ∨ v.ownBlock ≠ v'.ownBlock := by
  cases hv : v.ownBlock with
  | none => exact .inl rfl
  | some g =>
    right
    intro he
    have h1 := (h.lt g hv).2
    have h2 := (h'.lt g he.symm).1
    omega

theorem oinv_addF {w wr X w5 : World} {va : Array Value} {es : List Ent} {vF v' : Value} {e : Ent} (h0 : OInv w wr va es [] vF (.slice none 0 0)) (h : OInv w X va es [] vF (.slice none 0 0))
    (hg : X.grownBy w5 vF.ownBlock) (hrow : w5.ownsRow w.heap.size 43 6 v' (es.length + 1) (es.flatMap entCells ++ entCells e)) (N : Nat) (hN : wr.heap.size ≤ N)
    (hby : X.ownsRow N 5 1 e.bv e.f.bytes.length (e.f.bytes.map (Value.int .u8))) (hrl : X.ownsRow N 121 5 e.rv e.f.rels.length (e.f.rels.flatMap encRel))
    (hsm : (∀ b ∈ e.f.bytes, 0 ≤ b ∧ b < 256) ∧ e.f.group.size ≤ maxLen ∧ ∀ r ∈ e.f.rels, r.name.size ≤ maxLen ∧ (Lit.int .i64 r.kind).wf = true) :
    OInv w (w5.setCell ⟨w.heap.size + 2, 0, none⟩ v') va (es ++ [e]) [] v' (.slice none 0 0) := by
  have hwN : w.heap.size ≤ N := Nat.le_trans h0.below.size hN
  have z0 := block_kept h.pr.rowF hg h.q0 (by decide)
  have z1 := block_kept h.pr.rowF hg h.q1 (by decide)
  have z2 := block_kept h.pr.rowF hg h.q2 (by decide)
  have hp : PR w5 w.heap.size (es ++ [e]) [] v' (.slice none 0 0) := h.pr.growF hg (by simpa using hrow) (fun x hx => by rw [List.mem_singleton.1 hx]; exact row_base hby hwN) (fun x hx => by rw [List.mem_singleton.1 hx]; exact row_base hrl hwN) (fun x hx => by rw [List.mem_singleton.1 hx]; exact hsm)
  refine ⟨(Below.heap_setCell _ _ _ _ (by show w.heap.size ≠ w.heap.size + 2; omega)).trans z0, (Below.heap_setCell _ _ _ _ (by show w.heap.size + 1 ≠ w.heap.size + 2; omega)).trans z1, setB' z2 v', hp.set z2, ?_, ?_⟩
  · refine List.pairwise_append.2 ⟨h.ap, List.pairwise_singleton _ _, fun a ha b hb => ?_⟩
    obtain rfl := List.mem_singleton.1 hb
    rcases own_ahead (h0.pr.rels a ha) hrl hN with h1 | h1
    · exact .inl h1
    · exact .inr (.inr h1)
  · exact (h.below.grown hg h.below.size (fun k hk => (h.pr.rowF.lt k hk).1)).setCell (by show w.heap.size ≤ w.heap.size + 2; omega) _

set_option maxHeartbeats 8000000 in
set_option maxRecDepth 100000 in
theorem ownPart_any (p : M.Prt) (a1 a2 : Option Addr) (c1 c2 : Nat) (w : World) (hf : FragsAt w (.slice a1 p.frags.length c1) p.frags) (hd : DefsAt w (.slice a2 p.defs.length c2) p.defs) (hr : Room p) :
    Calls Try.prog 76 #[.agg #[.slice a1 p.frags.length c1, .slice a2 p.defs.length c2]] w fun e w' =>
      Below w.heap.size w w' ∧ ∃ es vF vD, e = .returned (.agg #[vF, vD]) ∧ PR w' w.heap.size es p.defs vF vD ∧ es.map (·.f) = p.frags ∧ es.Pairwise Apart := by
  obtain ⟨i0, hi0, hz0, hz1, hz2⟩ := info_parts (P := Try.prog) (e := 5) (z := .int .u8 0) (size := 1) (bytes := 1) (by kernel_rfl)
  obtain ⟨i1, hi1, hy0, hy1, hy2⟩ := info_parts (P := Try.prog) (e := 121) (z := .agg #[.int .i64 0, .int .i64 0, .string ⟨#[]⟩, .int .i64 0, .int .i64 0]) (size := 5) (bytes := 48) (by kernel_rfl)
  obtain ⟨i2, hi2, hx0, hx1, hx2⟩ := info_parts (P := Try.prog) (e := 43) (z := .agg #[.int .i64 0, .int .i64 0, .string ⟨#[]⟩, .slice none 0 0, .int .i64 0, .slice none 0 0]) (size := 6) (bytes := 88) (by kernel_rfl)
  obtain ⟨i3, hi3, hu0, hu1, hu2⟩ := info_parts (P := Try.prog) (e := 69) (z := .agg #[.string ⟨#[]⟩, .int .i64 0, .int .i64 0, .int .i64 0, .int .i64 0, .int .i64 0]) (size := 6) (bytes := 56) (by kernel_rfl)
  go_enter Try.func76, Try.ntmps76
  go_wp2_with fail
  have HY : Hid (OInv w (((w.alloc (.cells #[.slice a1 p.frags.length c1, .slice a2 p.defs.length c2] 25)).alloc (.cells #[.slice none 0 0, .slice none 0 0] 25)).alloc (.cells #[.slice none 0 0, .slice none 0 0] 25)) #[.slice a1 p.frags.length c1, .slice a2 p.defs.length c2] [] [] (.slice none 0 0) (.slice none 0 0)) := by
    have e2 := heap_alloc_new ((w.alloc (.cells #[.slice a1 p.frags.length c1, .slice a2 p.defs.length c2] 25)).alloc (.cells #[.slice none 0 0, .slice none 0 0] 25)) (.cells #[.slice none 0 0, .slice none 0 0] 25)
    refine ⟨(heap_alloc_old _ _ (by simp; omega)).trans (heap_alloc2_old _ _ _), (heap_alloc_old _ _ (by simp)).trans (heap_alloc2_new _ _ _), by simpa using e2, PR.nil _ _, List.Pairwise.nil, ?_⟩
    exact (((Below.refl _ _).alloc (Nat.le_refl _) _).alloc (by simp) _).alloc (by simp; omega) _
  go_loopw [9] (fun s9 wr => ∃ (k : Nat) (es : List Ent) (vF : Value), k ≤ p.frags.length ∧ s9 = .int .i64 k ∧ Hid (es.map (·.f) = p.frags.take k) ∧ es.length = k ∧ OInv w wr #[.slice a1 p.frags.length c1, .slice a2 p.defs.length c2] es [] vF (.slice none 0 0)) (fun s9 _ => p.frags.length - (intOf s9).toNat)
  case atStart => exact ⟨0, [], _, Nat.zero_le _, rfl, rfl, rfl, HY.out⟩
  case round =>
    obtain ⟨k, es, vF, hk, rfl, HE, hek, hM⟩ := hrel
    have HM : Hid (OInv w wr #[.slice a1 p.frags.length c1, .slice a2 p.defs.length c2] es [] vF (.slice none 0 0)) := hM
    have hl0 : w.heap.size < wr.heap.size := (Array.getElem?_eq_some_iff.1 hM.q0).1
    have hl2 : w.heap.size + 2 < wr.heap.size := (Array.getElem?_eq_some_iff.1 hM.q2).1
    clear hM HY
    by_cases hlt : k < p.frags.length
    · obtain ⟨b, off, ab, cb, ar, cr, rfl, e0, e1, e2, e3, e4, e5, hBy, hRl, hg, hbl⟩ := (hf.later HM.out.below).cells k hlt
      have hbr : b < wr.heap.size := World.block_lt_of_cell? _ _ e0
      have hmem := getD_mem p.frags frg0 k hlt
      have h64 := hr.bytes _ hmem
      have h8 := hr.rels _ hmem
      have hnf := hr.nf
      have hkl : (k : Int) < (p.frags.length : Int) := by omega
      have hes : es.length < p.frags.length := by omega
      have HK : Hid (es.length = k) := hek
      clear hek
      have HE1 : Hid (es.map (·.f) ++ [p.frags.getD k frg0] = p.frags.take (k + 1)) := by
        rw [Hid, List.take_succ_eq_append_getElem hlt, HE.out, List.getD_eq_getElem?_getD, List.getElem?_eq_getElem hlt]; rfl
      clear HE hf hd hr
      generalize p.frags.getD k frg0 = f at *
      obtain ⟨s, al, g, bs, sz, rs⟩ := f
      simp only at e0 e1 e2 e3 e4 e5 hBy hRl hg h64 h8
      go_upto_region 5 with fail
      have hbX : Below wr.heap.size wr (wr.alloc (.cells #[.int .i64 s, .int .i64 al, .string g, .slice ab bs.length cb, .int .i64 sz, .slice ar rs.length cr] 43)) := (Below.refl _ _).alloc (Nat.le_refl _) _
      have xf := heap_alloc_new wr (.cells #[.int .i64 s, .int .i64 al, .string g, .slice ab bs.length cb, .int .i64 sz, .slice ar rs.length cr] 43)
      have HX : Hid (OInv w (wr.alloc (.cells #[.int .i64 s, .int .i64 al, .string g, .slice ab bs.length cb, .int .i64 sz, .slice ar rs.length cr] 43)) #[.slice (some ⟨b, off, none⟩) p.frags.length c1, .slice a2 p.defs.length c2] es [] vF (.slice none 0 0)) := HM.out.later hbX
      have sB := (hBy.later hbX).src
      have sR := (hRl.later hbX).src
      have HBy : Hid (BytesAt wr (.slice ab bs.length cb) bs ∧ RelsAt wr (.slice ar rs.length cr) rs) := ⟨hBy, hRl⟩
      clear hBy hRl e0 e1 e2 e3 e4 e5
      generalize wr.alloc (.cells #[.int .i64 s, .int .i64 al, .string g, .slice ab bs.length cb, .int .i64 sz, .slice ar rs.length cr] 43) = X at *
      have hnX : wr.heap.size < X.heap.size := (Array.getElem?_eq_some_iff.1 xf).1
      have d3 : X.cell? ⟨wr.heap.size, 3, none⟩ = some (.slice ab bs.length cb) := cellB xf 3
      have d5 : X.cell? ⟨wr.heap.size, 5, none⟩ = some (.slice ar rs.length cr) := cellB xf 5
      have hD : Below X.heap.size X X.drew := (Below.refl _ _).drew
      have hP1 : ∀ o, Below X.heap.size X (X.drew.alloc o) := fun o => hD.alloc (Nat.le_refl _) o
      have hP2 : ∀ o o', Below X.heap.size X ((X.drew.alloc o).alloc o') := fun o o' => (hP1 o).alloc (by simp) o'
      have HS : Hid (∀ W, Below X.heap.size X W → W.cell? ⟨wr.heap.size, 3, none⟩ = some (.slice ab bs.length cb) ∧ W.cell? ⟨wr.heap.size, 5, none⟩ = some (.slice ar rs.length cr) ∧ W.frozen? ⟨wr.heap.size, 3, none⟩ = false ∧ W.frozen? ⟨wr.heap.size, 5, none⟩ = false ∧ wr.heap.size < W.heap.size) := fun W hW => by
        have y := (hW.block _ hnX).trans xf
        exact ⟨cellB y 3, cellB y 5, frozenB y 3, frozenB y 5, (Array.getElem?_eq_some_iff.1 y).1⟩
      go_cut [] (fun wx => ∃ bv rv, OwnF wr wx wr.heap.size X.heap.size ⟨s, al, g, bs, sz, rs⟩ bv rv)
      case first =>
        go_region_law (first | (refine step_append_empty (by rfl) _ _ _ (by rfl) X.heap.size 5 i0 (.int .u8 0) 1 1 Try.underlying40 hi0 hz0 hz1 hz2 rfl (by decide) _ (by rfl) (by first | exact heap_alloc_new _ _ | exact heap_alloc2_old _ _ _ | exact heap_alloc2_new _ _ _ | exact keep_block hgR (heap_alloc2_new _ _ _) (heap_alloc2_old _ _ _) (by decide) | exact keep_block hgR (heap_alloc2_old _ _ _) (heap_alloc2_new _ _ _) (by decide)) (by first | exact Nat.le_refl _ | exact Nat.le_succ _ | exact hXR.size) (.slice ab bs.length cb) bs.length (bs.map (Value.int .u8)) (by rfl) (by first | exact sB.later (hP1 _) | exact sB.later (hP2 _ _) | exact sB.later hXR | exact sB.later (hXR.alloc hXR.size _)) (by simp) (bytes_one bs) (by unfold maxLen; omega) (by omega) ?_; intro bv wB hoB hgB; obtain ⟨xb, yb, rfl⟩ := own_len hoB; have hXB : Below X.heap.size X wB := grown_fresh (by first | exact hP1 _ | exact hP2 _ _ | exact hXR | exact hXR.alloc hXR.size _) hgB (by first | exact Nat.le_refl _ | exact Nat.le_succ _ | exact hXR.size); obtain ⟨hb3, hb5, hbz3, hbz5, hbn⟩ := HS.out _ hXB; first | (have hoR' : wB.ownsRow X.heap.size 121 5 (.slice xr rs.length yr) rs.length (rs.flatMap encRel) := (by first | exact hoR.kept hgB (own_ne hoR (keep_block hgR (heap_alloc2_new _ _ _) (heap_alloc2_old _ _ _) (by decide)) (by decide)) | exact hoR.kept hgB (own_ne hoR (keep_block hgR (heap_alloc2_old _ _ _) (heap_alloc2_new _ _ _) (by decide)) (by decide)) | exact (hoR.alloc (.cells #[] 5)).kept hgB (own_ne (hoR.alloc (.cells #[] 5)) (heap_alloc_new wR (.cells #[] 5)) (by decide)))) | skip) | (refine step_append_empty (by rfl) _ _ _ (by rfl) X.heap.size 121 i1 (.agg #[.int .i64 0, .int .i64 0, .string ⟨#[]⟩, .int .i64 0, .int .i64 0]) 5 48 Try.underlying41 hi1 hy0 hy1 hy2 rfl (by decide) _ (by rfl) (by first | exact heap_alloc_new _ _ | exact heap_alloc2_old _ _ _ | exact heap_alloc2_new _ _ _ | exact keep_block hgB (heap_alloc2_new _ _ _) (heap_alloc2_old _ _ _) (by decide) | exact keep_block hgB (heap_alloc2_old _ _ _) (heap_alloc2_new _ _ _) (by decide)) (by first | exact Nat.le_refl _ | exact Nat.le_succ _ | exact hXB.size) (.slice ar rs.length cr) rs.length (rs.flatMap encRel) (by rfl) (by first | exact sR.later (hP1 _) | exact sR.later (hP2 _ _) | exact sR.later hXB | exact sR.later (hXB.alloc hXB.size _)) (flat_len 5 encRel (fun _ => rfl) rs) (rels_one rs) (by unfold maxLen; omega) (by omega) ?_; intro rv wR hoR hgR; obtain ⟨xr, yr, rfl⟩ := own_len hoR; have hXR : Below X.heap.size X wR := grown_fresh (by first | exact hP1 _ | exact hP2 _ _ | exact hXB | exact hXB.alloc hXB.size _) hgR (by first | exact Nat.le_refl _ | exact Nat.le_succ _ | exact hXB.size); obtain ⟨hr3, hr5, hrz3, hrz5, hrn⟩ := HS.out _ hXR; first | (have hoB' : wR.ownsRow X.heap.size 5 1 (.slice xb bs.length yb) bs.length (bs.map (Value.int .u8)) := (by first | exact hoB.kept hgR (own_ne hoB (keep_block hgB (heap_alloc2_new _ _ _) (heap_alloc2_old _ _ _) (by decide)) (by decide)) | exact hoB.kept hgR (own_ne hoB (keep_block hgB (heap_alloc2_old _ _ _) (heap_alloc2_new _ _ _) (by decide)) (by decide)) | exact (hoB.alloc (.cells #[] 121)).kept hgR (own_ne (hoB.alloc (.cells #[] 121)) (heap_alloc_new wB (.cells #[] 121)) (by decide)))) | skip))
        all_goals
          go_wp2_with fail
          go_meet
          first
            | exact ⟨_, _, own_fin hbX (Nat.le_refl _) hXR xf hoB' hoR⟩
            | exact ⟨_, _, own_fin hbX (Nat.le_refl _) hXB xf hoB hoR'⟩
      case rest =>
        obtain ⟨bv, rv, hO⟩ := hcut
        have HC : Hid (OInv w wc #[.slice (some ⟨b, off, none⟩) p.frags.length c1, .slice a2 p.defs.length c2] es [] vF (.slice none 0 0)) := HM.out.later hO.below
        have HO : Hid (OwnF wr wc wr.heap.size X.heap.size ⟨s, al, g, bs, sz, rs⟩ bv rv) := hO
        obtain ⟨xb, yb, rfl⟩ := own_len hO.bytes
        obtain ⟨xr, yr, rfl⟩ := own_len hO.rels
        have k0 : wc.cell? ⟨wr.heap.size, 0, none⟩ = some (.int .i64 s) := cellB hO.blk 0
        have k1 : wc.cell? ⟨wr.heap.size, 1, none⟩ = some (.int .i64 al) := cellB hO.blk 1
        have k2 : wc.cell? ⟨wr.heap.size, 2, none⟩ = some (.string g) := cellB hO.blk 2
        have k3 : wc.cell? ⟨wr.heap.size, 3, none⟩ = some (.slice xb bs.length yb) := cellB hO.blk 3
        have k4 : wc.cell? ⟨wr.heap.size, 4, none⟩ = some (.int .i64 sz) := cellB hO.blk 4
        have k5 : wc.cell? ⟨wr.heap.size, 5, none⟩ = some (.slice xr rs.length yr) := cellB hO.blk 5
        have hnc : wr.heap.size < wc.heap.size := (Array.getElem?_eq_some_iff.1 hO.blk).1
        obtain ⟨aV, cV, rfl⟩ := own_len HC.out.pr.rowF
        have o0 : wc.cell? ⟨w.heap.size + 2, 0, none⟩ = some (.slice aV es.length cV) := cellB HC.out.q2 0
        have hwc : w.heap.size ≤ wc.heap.size := HC.out.below.size
        have hl2c : w.heap.size + 2 < wc.heap.size := by omega
        clear hO xf d3 d5 hD hP1 hP2 HS sB sR
        have hAl : Below wc.heap.size wc (wc.alloc (.cells #[.int .i64 s, .int .i64 al, .string g, .slice xb bs.length yb, .int .i64 sz, .slice xr rs.length yr] 43)) := (Below.refl _ _).alloc (Nat.le_refl _) _
        have hnews : ∀ j u, (#[.int .i64 s, .int .i64 al, .string g, .slice xb bs.length yb, .int .i64 sz, .slice xr rs.length yr] : Array Value).toList[j]? = some u → (wc.alloc (.cells #[.int .i64 s, .int .i64 al, .string g, .slice xb bs.length yb, .int .i64 sz, .slice xr rs.length yr] 43)).cell? ((⟨wc.heap.size, 0, none⟩ : Addr).add j) = some u := World.news_of_block (heap_alloc_new wc _)
        have hsmall : (∀ b ∈ bs, 0 ≤ b ∧ b < 256) ∧ g.size ≤ maxLen ∧ ∀ r ∈ rs, r.name.size ≤ maxLen ∧ (Lit.int .i64 r.kind).wf = true := ⟨HBy.out.1.2, hg, HBy.out.2.2⟩
        have HEnd : Hid (∀ v' w5, (wc.alloc (.cells #[.int .i64 s, .int .i64 al, .string g, .slice xb bs.length yb, .int .i64 sz, .slice xr rs.length yr] 43)).grownBy w5 (Value.slice aV es.length cV).ownBlock → w5.ownsRow w.heap.size 43 6 v' (es.length + 1) (es.flatMap entCells ++ (#[.int .i64 s, .int .i64 al, .string g, .slice xb bs.length yb, .int .i64 sz, .slice xr rs.length yr] : Array Value).toList) → OInv w (w5.setCell ⟨w.heap.size + 2, 0, none⟩ v') #[.slice (some ⟨b, off, none⟩) p.frags.length c1, .slice a2 p.defs.length c2] (es ++ [⟨⟨s, al, g, bs, sz, rs⟩, .slice xb bs.length yb, .slice xr rs.length yr⟩]) [] v' (.slice none 0 0)) := fun v' w5 hg5 ho5 =>
          oinv_addF (e := ⟨⟨s, al, g, bs, sz, rs⟩, .slice xb bs.length yb, .slice xr rs.length yr⟩) HM.out (HC.out.later hAl) hg5 ho5 X.heap.size (by omega) (HO.out.bytes.kept (grown_of_below hAl none) own_self) (HO.out.rels.kept (grown_of_below hAl none) own_self) hsmall
        have HQ2 : Hid (∀ w5, (wc.alloc (.cells #[.int .i64 s, .int .i64 al, .string g, .slice xb bs.length yb, .int .i64 sz, .slice xr rs.length yr] 43)).grownBy w5 (Value.slice aV es.length cV).ownBlock → w5.heap[w.heap.size + 2]? = some (.cells #[.slice aV es.length cV, .slice none 0 0] 25 (0, 0))) := fun w5 hg5 => block_kept (HC.out.later hAl).pr.rowF hg5 (HC.out.later hAl).q2 (by decide)
        have hrowA := (HC.out.later hAl).pr.rowF
        clear hsmall hAl HBy
        go_wp2_with (at_builtin; refine wpList_append_own _ rfl _ _ 22 rfl w.heap.size 43 i2 (.agg #[.int .i64 0, .int .i64 0, .string ⟨#[]⟩, .slice none 0 0, .int .i64 0, .slice none 0 0]) 6 88 Try.underlying22 hi2 hx0 hx1 hx2 rfl (by decide) _ _ _ rfl hrowA ⟨wc.heap.size, 0, none⟩ 1 1 (#[.int .i64 s, .int .i64 al, .string g, .slice xb bs.length yb, .int .i64 sz, .slice xr rs.length yr] : Array Value).toList rfl rfl hnews (fun u hu => by simp at hu; rcases hu with rfl | rfl | rfl | rfl | rfl | rfl <;> rfl) (by unfold maxLen; omega) (by omega) (by simp; omega) ?_; intro v5 w5 ho5 hg5 hn5; obtain ⟨a5, c5, rfl⟩ := own_len ho5; have hq5 := HQ2.out w5 hg5; have m0 : w5.cell? ⟨w.heap.size + 2, 0, none⟩ = some (.slice aV es.length cV) := cellB hq5 0; have mz0 := frozenB hq5 0)
        have HFin := HEnd.out _ _ hg5 ho5
        go_roundw
        case rel => exact ⟨k + 1, _, _, by omega, by go_num, by rw [Hid, List.map_append]; exact HE1.out, by rw [List.length_append, HK.out]; rfl, HFin⟩
        case measure => simp [intOf]; omega
    · have hkl : k = p.frags.length := by omega
      have HE2 : Hid (es.map (·.f) = p.frags) := by rw [Hid, HE.out, hkl, List.take_length]
      clear HE hkl hek
      have hnd := hr.nd
      have c11 : wr.cell? ⟨w.heap.size, 1, none⟩ = some (.slice a2 p.defs.length c2) := cellB HM.out.q0 1
      have hw0 : w.heap.size ≤ wr.heap.size := by omega
      have hAl : Below wr.heap.size wr (wr.alloc (.cells #[] 69)) := (Below.refl _ _).alloc (Nat.le_refl _) _
      have sD := ((hd.later HM.out.below).later hAl).src
      have hem := own_empty (k := 6) (N := wr.heap.size) (heap_alloc_new wr (.cells #[] 69)) (Nat.le_refl _)
      have hsD : Hid (∀ d ∈ p.defs, d.name.size ≤ maxLen) := hd.2
      have HO3 : Hid (∀ w3, (wr.alloc (.cells #[] 69)).grownBy w3 (some wr.heap.size) → OInv w w3 #[.slice a1 p.frags.length c1, .slice a2 p.defs.length c2] es [] vF (.slice none 0 0)) := fun w3 hg3 => HM.out.later (hAl.grown hg3 (by simp) (fun k hk => by cases hk; exact Nat.le_refl _))
      obtain ⟨aV, cV, rfl⟩ := own_len HM.out.pr.rowF
      clear hf hd hr
      go_wp2_with (at_builtin; refine wpList_append_src _ rfl _ _ 23 rfl wr.heap.size 69 i3 (.agg #[.string ⟨#[]⟩, .int .i64 0, .int .i64 0, .int .i64 0, .int .i64 0, .int .i64 0]) 6 56 Try.underlying23 hi3 hu0 hu1 hu2 rfl (by decide) _ 0 [] rfl hem _ p.defs.length (p.defs.flatMap encDfn) rfl sD (flat_len 6 encDfn (fun _ => rfl) p.defs) (defs_one p.defs) (by unfold maxLen; omega) (by omega) (by simp) ?_; intro vD w3 hoD hg3; obtain ⟨aD, cD, rfl⟩ := own_len hoD; refine Hid.out ?_)
      rw [Nat.zero_add, List.nil_append] at hoD
      have hO3 := HO3.out w3 hg3
      have hz2 : w.heap.size + 2 < w3.heap.size := (Array.getElem?_eq_some_iff.1 hO3.q2).1
      have n0 : w3.cell? ⟨w.heap.size + 2, 0, none⟩ = some (.slice aV es.length cV) := cellB hO3.q2 0
      have n1 : w3.cell? ⟨w.heap.size + 2, 1, none⟩ = some (.slice none 0 0) := cellB hO3.q2 1
      have z1 := frozenB hO3.q2 1
      have r0 : w3.cell? ⟨w.heap.size + 1, 0, none⟩ = some (.slice none 0 0) := cellB hO3.q1 0
      have r1 : w3.cell? ⟨w.heap.size + 1, 1, none⟩ = some (.slice none 0 0) := cellB hO3.q1 1
      have y0 := frozenB hO3.q1 0
      have y1 := frozenB hO3.q1 1
      have hP : PR w3 w.heap.size es p.defs (.slice aV es.length cV) (.slice aD p.defs.length cD) := ⟨hO3.pr.rowF, row_base hoD hw0, hO3.pr.bytes, hO3.pr.small, hsD.out, hO3.pr.rels⟩
      have q2' : (w3.setCell ⟨w.heap.size + 2, 1, none⟩ (.slice aD p.defs.length cD)).heap[w.heap.size + 1]? = some (.cells #[.slice none 0 0, .slice none 0 0] 25 (0, 0)) := (Below.heap_setCell _ _ _ _ (by show w.heap.size + 1 ≠ w.heap.size + 2; omega)).trans hO3.q1
      have q3' : ((w3.setCell ⟨w.heap.size + 2, 1, none⟩ (.slice aD p.defs.length cD)).setCell ⟨w.heap.size + 1, 0, none⟩ (.slice aV es.length cV)).heap[w.heap.size + 1]? = some (.cells #[.slice aV es.length cV, .slice none 0 0] 25 (0, 0)) := setB' q2' _
      have HP : Hid (PR (((w3.setCell ⟨w.heap.size + 2, 1, none⟩ (.slice aD p.defs.length cD)).setCell ⟨w.heap.size + 1, 0, none⟩ (.slice aV es.length cV)).setCell ⟨w.heap.size + 1, 1, none⟩ (.slice aD p.defs.length cD)) w.heap.size es p.defs (.slice aV es.length cV) (.slice aD p.defs.length cD)) := ((hP.set hO3.q2).set q2').set q3'
      have HB : Hid (Below w.heap.size w (((w3.setCell ⟨w.heap.size + 2, 1, none⟩ (.slice aD p.defs.length cD)).setCell ⟨w.heap.size + 1, 0, none⟩ (.slice aV es.length cV)).setCell ⟨w.heap.size + 1, 1, none⟩ (.slice aD p.defs.length cD))) := ((hO3.below.setCell (by show w.heap.size ≤ w.heap.size + 2; omega) _).setCell (by show w.heap.size ≤ w.heap.size + 1; omega) _).setCell (by show w.heap.size ≤ w.heap.size + 1; omega) _
      have HAp : Hid (es.Pairwise Apart) := hO3.ap
      clear hO3 hP q2' q3' hoD hg3 HO3 hem sD c11 HM
      refine Lib.hid ?_
      go_wp2
      refine bodyPost_ret (v := .agg #[.slice aV es.length cV, .slice aD p.defs.length cD]) (by simp [results, Try.results76, go_sem, r0, r1]) rfl ?_
      exact ⟨HB.out, es, _, _, rfl, HP.out, HE2.out, HAp.out⟩

end Go.Proofs.Ytebhbhbhcoijpaa

namespace Go.Proofs.Ytebhbhbhcoijpaa
open Go Go.RowKit
set_option linter.unusedVariables false

set_option maxHeartbeats 8000000 in
set_option maxRecDepth 100000 in
theorem copied_any (p : M.Prt) (a1 a2 : Option Addr) (c1 c2 : Nat) (w : World) (hf : FragsAt w (.slice a1 p.frags.length c1) p.frags) (hd : DefsAt w (.slice a2 p.defs.length c2) p.defs) (hr : Room p) :
    Calls Try.prog 72 #[.agg #[.slice a1 p.frags.length c1, .slice a2 p.defs.length c2]] w fun e w' =>
      Below w.heap.size w w' ∧ ∃ es vF vD, e = .returned (.agg #[vF, vD]) ∧ PR w' w.heap.size es p.defs vF vD ∧ es.map (·.f) = p.frags ∧ es.Pairwise Apart := by
  obtain ⟨i0, hi0, hz0, hz1, hz2⟩ := info_parts (P := Try.prog) (e := 5) (z := .int .u8 0) (size := 1) (bytes := 1) (by kernel_rfl)
  obtain ⟨i1, hi1, hy0, hy1, hy2⟩ := info_parts (P := Try.prog) (e := 121) (z := .agg #[.int .i64 0, .int .i64 0, .string ⟨#[]⟩, .int .i64 0, .int .i64 0]) (size := 5) (bytes := 48) (by kernel_rfl)
  obtain ⟨i2, hi2, hx0, hx1, hx2⟩ := info_parts (P := Try.prog) (e := 43) (z := .agg #[.int .i64 0, .int .i64 0, .string ⟨#[]⟩, .slice none 0 0, .int .i64 0, .slice none 0 0]) (size := 6) (bytes := 88) (by kernel_rfl)
  obtain ⟨i3, hi3, hu0, hu1, hu2⟩ := info_parts (P := Try.prog) (e := 69) (z := .agg #[.string ⟨#[]⟩, .int .i64 0, .int .i64 0, .int .i64 0, .int .i64 0, .int .i64 0]) (size := 6) (bytes := 56) (by kernel_rfl)
  go_enter Try.func72, Try.ntmps72
  go_wp2_with fail
  have HY : Hid (OInv w (((w.alloc (.cells #[.slice a1 p.frags.length c1, .slice a2 p.defs.length c2] 25)).alloc (.cells #[.slice none 0 0, .slice none 0 0] 25)).alloc (.cells #[.slice none 0 0, .slice none 0 0] 25)) #[.slice a1 p.frags.length c1, .slice a2 p.defs.length c2] [] [] (.slice none 0 0) (.slice none 0 0)) := by
    have e2 := heap_alloc_new ((w.alloc (.cells #[.slice a1 p.frags.length c1, .slice a2 p.defs.length c2] 25)).alloc (.cells #[.slice none 0 0, .slice none 0 0] 25)) (.cells #[.slice none 0 0, .slice none 0 0] 25)
    refine ⟨(heap_alloc_old _ _ (by simp; omega)).trans (heap_alloc2_old _ _ _), (heap_alloc_old _ _ (by simp)).trans (heap_alloc2_new _ _ _), by simpa using e2, PR.nil _ _, List.Pairwise.nil, ?_⟩
    exact (((Below.refl _ _).alloc (Nat.le_refl _) _).alloc (by simp) _).alloc (by simp; omega) _
  go_loopw [9] (fun s9 wr => ∃ (k : Nat) (es : List Ent) (vF : Value), k ≤ p.frags.length ∧ s9 = .int .i64 k ∧ Hid (es.map (·.f) = p.frags.take k) ∧ es.length = k ∧ OInv w wr #[.slice a1 p.frags.length c1, .slice a2 p.defs.length c2] es [] vF (.slice none 0 0)) (fun s9 _ => p.frags.length - (intOf s9).toNat)
  case atStart => exact ⟨0, [], _, Nat.zero_le _, rfl, rfl, rfl, HY.out⟩
  case round =>
    obtain ⟨k, es, vF, hk, rfl, HE, hek, hM⟩ := hrel
    have HM : Hid (OInv w wr #[.slice a1 p.frags.length c1, .slice a2 p.defs.length c2] es [] vF (.slice none 0 0)) := hM
    have hl0 : w.heap.size < wr.heap.size := (Array.getElem?_eq_some_iff.1 hM.q0).1
    have hl2 : w.heap.size + 2 < wr.heap.size := (Array.getElem?_eq_some_iff.1 hM.q2).1
    clear hM HY
    by_cases hlt : k < p.frags.length
    · obtain ⟨b, off, ab, cb, ar, cr, rfl, e0, e1, e2, e3, e4, e5, hBy, hRl, hg, hbl⟩ := (hf.later HM.out.below).cells k hlt
      have hbr : b < wr.heap.size := World.block_lt_of_cell? _ _ e0
      have hmem := getD_mem p.frags frg0 k hlt
      have h64 := hr.bytes _ hmem
      have h8 := hr.rels _ hmem
      have hnf := hr.nf
      have hkl : (k : Int) < (p.frags.length : Int) := by omega
      have hes : es.length < p.frags.length := by omega
      have HK : Hid (es.length = k) := hek
      clear hek
      have HE1 : Hid (es.map (·.f) ++ [p.frags.getD k frg0] = p.frags.take (k + 1)) := by
        rw [Hid, List.take_succ_eq_append_getElem hlt, HE.out, List.getD_eq_getElem?_getD, List.getElem?_eq_getElem hlt]; rfl
      clear HE hf hd hr
      generalize p.frags.getD k frg0 = f at *
      obtain ⟨s, al, g, bs, sz, rs⟩ := f
      simp only at e0 e1 e2 e3 e4 e5 hBy hRl hg h64 h8
      go_upto_region 5 with fail
      have hbX : Below wr.heap.size wr (wr.alloc (.cells #[.int .i64 s, .int .i64 al, .string g, .slice ab bs.length cb, .int .i64 sz, .slice ar rs.length cr] 43)) := (Below.refl _ _).alloc (Nat.le_refl _) _
      have xf := heap_alloc_new wr (.cells #[.int .i64 s, .int .i64 al, .string g, .slice ab bs.length cb, .int .i64 sz, .slice ar rs.length cr] 43)
      have HX : Hid (OInv w (wr.alloc (.cells #[.int .i64 s, .int .i64 al, .string g, .slice ab bs.length cb, .int .i64 sz, .slice ar rs.length cr] 43)) #[.slice (some ⟨b, off, none⟩) p.frags.length c1, .slice a2 p.defs.length c2] es [] vF (.slice none 0 0)) := HM.out.later hbX
      have sB := (hBy.later hbX).src
      have sR := (hRl.later hbX).src
      have HBy : Hid (BytesAt wr (.slice ab bs.length cb) bs ∧ RelsAt wr (.slice ar rs.length cr) rs) := ⟨hBy, hRl⟩
      clear hBy hRl e0 e1 e2 e3 e4 e5
      generalize wr.alloc (.cells #[.int .i64 s, .int .i64 al, .string g, .slice ab bs.length cb, .int .i64 sz, .slice ar rs.length cr] 43) = X at *
      have hnX : wr.heap.size < X.heap.size := (Array.getElem?_eq_some_iff.1 xf).1
      have d3 : X.cell? ⟨wr.heap.size, 3, none⟩ = some (.slice ab bs.length cb) := cellB xf 3
      have d5 : X.cell? ⟨wr.heap.size, 5, none⟩ = some (.slice ar rs.length cr) := cellB xf 5
      have hD : Below X.heap.size X X.drew := (Below.refl _ _).drew
      have hP1 : ∀ o, Below X.heap.size X (X.drew.alloc o) := fun o => hD.alloc (Nat.le_refl _) o
      have hP2 : ∀ o o', Below X.heap.size X ((X.drew.alloc o).alloc o') := fun o o' => (hP1 o).alloc (by simp) o'
      have HS : Hid (∀ W, Below X.heap.size X W → W.cell? ⟨wr.heap.size, 3, none⟩ = some (.slice ab bs.length cb) ∧ W.cell? ⟨wr.heap.size, 5, none⟩ = some (.slice ar rs.length cr) ∧ W.frozen? ⟨wr.heap.size, 3, none⟩ = false ∧ W.frozen? ⟨wr.heap.size, 5, none⟩ = false ∧ wr.heap.size < W.heap.size) := fun W hW => by
        have y := (hW.block _ hnX).trans xf
        exact ⟨cellB y 3, cellB y 5, frozenB y 3, frozenB y 5, (Array.getElem?_eq_some_iff.1 y).1⟩
      have hnone : ∀ W w3, Below X.heap.size X W → W.grownBy w3 (Value.slice none 0 0).ownBlock → Below X.heap.size X w3 := fun W w3 hW hg => hW.trans ⟨hg.os, hg.tape, hg.output, hg.size, fun k hk => hg.block k (Nat.lt_of_lt_of_le hk hW.size) (by simp [Value.ownBlock])⟩
      have HSR : Hid (∀ W, Below wr.heap.size wr W → Src W (.slice ar rs.length cr) rs.length (rs.flatMap encRel)) := fun W hW => (HBy.out.2.later hW).src
      go_upto_region 6 with (at_builtin; refine wpList_append_src _ rfl _ _ 40 rfl X.heap.size 5 i0 (.int .u8 0) 1 1 Try.underlying40 hi0 hz0 hz1 hz2 rfl (by decide) (.slice none 0 0) 0 [] rfl (World.ownsRow_nil _ _ _ _) _ bs.length (bs.map (Value.int .u8)) rfl sB (by simp) (fun u hu => by obtain ⟨b, _, rfl⟩ := List.mem_map.1 hu; rfl) (by unfold maxLen; omega) (by omega) (Nat.le_refl _) ?_; intro bv w3 hob hg3; rw [Nat.zero_add, List.nil_append] at hob; obtain ⟨xb, yb, rfl⟩ := own_len hob; have hb3 := hnone X w3 (Below.refl _ _) hg3; obtain ⟨z3, z5, f3, f5, hz⟩ := HS.out w3 hb3)
      have HX3 : Hid (Below X.heap.size X w3 ∧ w3.ownsRow X.heap.size 5 1 (.slice xb bs.length yb) bs.length (bs.map (Value.int .u8))) := ⟨hb3, hob⟩
      have hq3 := (hb3.block _ hnX).trans xf
      have hq4 : (w3.setCell ⟨wr.heap.size, 3, none⟩ (.slice xb bs.length yb)).heap[wr.heap.size]? = some (.cells #[.int .i64 s, .int .i64 al, .string g, .slice xb bs.length yb, .int .i64 sz, .slice ar rs.length cr] 43 (0, 0)) := setB' hq3 _
      have hB4 : Below wr.heap.size wr (w3.setCell ⟨wr.heap.size, 3, none⟩ (.slice xb bs.length yb)) := (hbX.trans (hb3.mono hbX.size)).setCell (Nat.le_refl _) _
      have hO4 : (w3.setCell ⟨wr.heap.size, 3, none⟩ (.slice xb bs.length yb)).ownsRow X.heap.size 5 1 (.slice xb bs.length yb) bs.length (bs.map (Value.int .u8)) := row_setc hob hq3 (by decide)
      have hs4 : X.heap.size ≤ (w3.setCell ⟨wr.heap.size, 3, none⟩ (.slice xb bs.length yb)).heap.size := by simpa using hb3.size
      clear hq3 HX3 hob hg3 hb3 z3 z5 f3 f5 hz
      generalize w3.setCell ⟨wr.heap.size, 3, none⟩ (.slice xb bs.length yb) = X4 at *
      have sR4 := HSR.out X4 hB4
      have d5' : X4.cell? ⟨wr.heap.size, 5, none⟩ = some (.slice ar rs.length cr) := cellB hq4 5
      have hn4 : wr.heap.size < X4.heap.size := (Array.getElem?_eq_some_iff.1 hq4).1
      go_upto_region 7 with (at_builtin; refine wpList_append_src _ rfl _ _ 41 rfl X.heap.size 121 i1 (.agg #[.int .i64 0, .int .i64 0, .string ⟨#[]⟩, .int .i64 0, .int .i64 0]) 5 48 Try.underlying41 hi1 hy0 hy1 hy2 rfl (by decide) (.slice none 0 0) 0 [] rfl (World.ownsRow_nil _ _ _ _) _ rs.length (rs.flatMap encRel) rfl sR4 (flat_len 5 encRel (fun _ => rfl) rs) (rels_one rs) (by unfold maxLen; omega) (by omega) hs4 ?_; intro rv w5 hor hg5; rw [Nat.zero_add, List.nil_append] at hor; obtain ⟨xr, yr, rfl⟩ := own_len hor; have hb5 : Below X4.heap.size X4 w5 := ⟨hg5.os, hg5.tape, hg5.output, hg5.size, fun k hk => hg5.block k hk (by simp [Value.ownBlock])⟩; have hq5 := (hb5.block _ hn4).trans hq4; have z5 : w5.cell? ⟨wr.heap.size, 5, none⟩ = some (.slice ar rs.length cr) := cellB hq5 5; have f5 := frozenB hq5 5)
      have hO : OwnF wr (w5.setCell ⟨wr.heap.size, 5, none⟩ (.slice xr rs.length yr)) wr.heap.size X.heap.size ⟨s, al, g, bs, sz, rs⟩ (.slice xb bs.length yb) (.slice xr rs.length yr) :=
        ⟨setB' hq5 _, row_setc (hO4.kept (grown_of_below hb5 none) own_self) hq5 (by decide), row_setc hor hq5 (by decide), (hB4.trans (hb5.mono hB4.size)).setCell (Nat.le_refl _) _⟩
      clear hq5 hb5 hg5 hor z5 f5 hO4 hB4 hq4 sR4 d5' hn4 hs4 HSR hnone
      generalize w5.setCell ⟨wr.heap.size, 5, none⟩ (.slice xr rs.length yr) = wc at *
      have HC : Hid (OInv w wc #[.slice (some ⟨b, off, none⟩) p.frags.length c1, .slice a2 p.defs.length c2] es [] vF (.slice none 0 0)) := HM.out.later hO.below
      have HO : Hid (OwnF wr wc wr.heap.size X.heap.size ⟨s, al, g, bs, sz, rs⟩ (.slice xb bs.length yb) (.slice xr rs.length yr)) := hO
      have k0 : wc.cell? ⟨wr.heap.size, 0, none⟩ = some (.int .i64 s) := cellB hO.blk 0
      have k1 : wc.cell? ⟨wr.heap.size, 1, none⟩ = some (.int .i64 al) := cellB hO.blk 1
      have k2 : wc.cell? ⟨wr.heap.size, 2, none⟩ = some (.string g) := cellB hO.blk 2
      have k3 : wc.cell? ⟨wr.heap.size, 3, none⟩ = some (.slice xb bs.length yb) := cellB hO.blk 3
      have k4 : wc.cell? ⟨wr.heap.size, 4, none⟩ = some (.int .i64 sz) := cellB hO.blk 4
      have k5 : wc.cell? ⟨wr.heap.size, 5, none⟩ = some (.slice xr rs.length yr) := cellB hO.blk 5
      have hnc : wr.heap.size < wc.heap.size := (Array.getElem?_eq_some_iff.1 hO.blk).1
      obtain ⟨aV, cV, rfl⟩ := own_len HC.out.pr.rowF
      have o0 : wc.cell? ⟨w.heap.size + 2, 0, none⟩ = some (.slice aV es.length cV) := cellB HC.out.q2 0
      have hwc : w.heap.size ≤ wc.heap.size := HC.out.below.size
      have hl2c : w.heap.size + 2 < wc.heap.size := by omega
      clear hO xf d3 d5 hD hP1 hP2 HS sB sR
      have hAl : Below wc.heap.size wc (wc.alloc (.cells #[.int .i64 s, .int .i64 al, .string g, .slice xb bs.length yb, .int .i64 sz, .slice xr rs.length yr] 43)) := (Below.refl _ _).alloc (Nat.le_refl _) _
      have hnews : ∀ j u, (#[.int .i64 s, .int .i64 al, .string g, .slice xb bs.length yb, .int .i64 sz, .slice xr rs.length yr] : Array Value).toList[j]? = some u → (wc.alloc (.cells #[.int .i64 s, .int .i64 al, .string g, .slice xb bs.length yb, .int .i64 sz, .slice xr rs.length yr] 43)).cell? ((⟨wc.heap.size, 0, none⟩ : Addr).add j) = some u := World.news_of_block (heap_alloc_new wc _)
      have hsmall : (∀ b ∈ bs, 0 ≤ b ∧ b < 256) ∧ g.size ≤ maxLen ∧ ∀ r ∈ rs, r.name.size ≤ maxLen ∧ (Lit.int .i64 r.kind).wf = true := ⟨HBy.out.1.2, hg, HBy.out.2.2⟩
      have HEnd : Hid (∀ v' w5, (wc.alloc (.cells #[.int .i64 s, .int .i64 al, .string g, .slice xb bs.length yb, .int .i64 sz, .slice xr rs.length yr] 43)).grownBy w5 (Value.slice aV es.length cV).ownBlock → w5.ownsRow w.heap.size 43 6 v' (es.length + 1) (es.flatMap entCells ++ (#[.int .i64 s, .int .i64 al, .string g, .slice xb bs.length yb, .int .i64 sz, .slice xr rs.length yr] : Array Value).toList) → OInv w (w5.setCell ⟨w.heap.size + 2, 0, none⟩ v') #[.slice (some ⟨b, off, none⟩) p.frags.length c1, .slice a2 p.defs.length c2] (es ++ [⟨⟨s, al, g, bs, sz, rs⟩, .slice xb bs.length yb, .slice xr rs.length yr⟩]) [] v' (.slice none 0 0)) := fun v' w5 hg5 ho5 =>
        oinv_addF (e := ⟨⟨s, al, g, bs, sz, rs⟩, .slice xb bs.length yb, .slice xr rs.length yr⟩) HM.out (HC.out.later hAl) hg5 ho5 X.heap.size (by omega) (HO.out.bytes.kept (grown_of_below hAl none) own_self) (HO.out.rels.kept (grown_of_below hAl none) own_self) hsmall
      have HQ2 : Hid (∀ w5, (wc.alloc (.cells #[.int .i64 s, .int .i64 al, .string g, .slice xb bs.length yb, .int .i64 sz, .slice xr rs.length yr] 43)).grownBy w5 (Value.slice aV es.length cV).ownBlock → w5.heap[w.heap.size + 2]? = some (.cells #[.slice aV es.length cV, .slice none 0 0] 25 (0, 0))) := fun w5 hg5 => block_kept (HC.out.later hAl).pr.rowF hg5 (HC.out.later hAl).q2 (by decide)
      have hrowA := (HC.out.later hAl).pr.rowF
      clear hsmall hAl HBy
      go_wp2_with (at_builtin; refine wpList_append_own _ rfl _ _ 22 rfl w.heap.size 43 i2 (.agg #[.int .i64 0, .int .i64 0, .string ⟨#[]⟩, .slice none 0 0, .int .i64 0, .slice none 0 0]) 6 88 Try.underlying22 hi2 hx0 hx1 hx2 rfl (by decide) _ _ _ rfl hrowA ⟨wc.heap.size, 0, none⟩ 1 1 (#[.int .i64 s, .int .i64 al, .string g, .slice xb bs.length yb, .int .i64 sz, .slice xr rs.length yr] : Array Value).toList rfl rfl hnews (fun u hu => by simp at hu; rcases hu with rfl | rfl | rfl | rfl | rfl | rfl <;> rfl) (by unfold maxLen; omega) (by omega) (by simp; omega) ?_; intro v5 w5 ho5 hg5 hn5; obtain ⟨a5, c5, rfl⟩ := own_len ho5; have hq5 := HQ2.out w5 hg5; have m0 : w5.cell? ⟨w.heap.size + 2, 0, none⟩ = some (.slice aV es.length cV) := cellB hq5 0; have mz0 := frozenB hq5 0)
      have HFin := HEnd.out _ _ hg5 ho5
      go_roundw
      case rel => exact ⟨k + 1, _, _, by omega, by go_num, by rw [Hid, List.map_append]; exact HE1.out, by rw [List.length_append, HK.out]; rfl, HFin⟩
      case measure => simp [intOf]; omega
    · have hkl : k = p.frags.length := by omega
      have HE2 : Hid (es.map (·.f) = p.frags) := by rw [Hid, HE.out, hkl, List.take_length]
      clear HE hkl hek
      have hnd := hr.nd
      have c11 : wr.cell? ⟨w.heap.size, 1, none⟩ = some (.slice a2 p.defs.length c2) := cellB HM.out.q0 1
      have hw0 : w.heap.size ≤ wr.heap.size := by omega
      have sD := (hd.later HM.out.below).src
      have hsD : Hid (∀ d ∈ p.defs, d.name.size ≤ maxLen) := hd.2
      have HO3 : Hid (∀ w3, wr.grownBy w3 (Value.slice none 0 0).ownBlock → OInv w w3 #[.slice a1 p.frags.length c1, .slice a2 p.defs.length c2] es [] vF (.slice none 0 0)) := fun w3 hg3 => HM.out.later ⟨hg3.os, hg3.tape, hg3.output, hg3.size, fun k hk => hg3.block k hk (by simp [Value.ownBlock])⟩
      have n1' : wr.cell? ⟨w.heap.size + 2, 1, none⟩ = some (.slice none 0 0) := cellB HM.out.q2 1
      obtain ⟨aV, cV, rfl⟩ := own_len HM.out.pr.rowF
      clear hf hd hr
      go_wp2_with (at_builtin; refine wpList_append_src _ rfl _ _ 23 rfl wr.heap.size 69 i3 (.agg #[.string ⟨#[]⟩, .int .i64 0, .int .i64 0, .int .i64 0, .int .i64 0, .int .i64 0]) 6 56 Try.underlying23 hi3 hu0 hu1 hu2 rfl (by decide) (.slice none 0 0) 0 [] rfl (World.ownsRow_nil _ _ _ _) _ p.defs.length (p.defs.flatMap encDfn) rfl sD (flat_len 6 encDfn (fun _ => rfl) p.defs) (defs_one p.defs) (by unfold maxLen; omega) (by omega) (Nat.le_refl _) ?_; intro vD w3 hoD hg3; obtain ⟨aD, cD, rfl⟩ := own_len hoD; refine Hid.out ?_)
      rw [Nat.zero_add, List.nil_append] at hoD
      have hO3 := HO3.out w3 hg3
      have hz2 : w.heap.size + 2 < w3.heap.size := (Array.getElem?_eq_some_iff.1 hO3.q2).1
      have n0 : w3.cell? ⟨w.heap.size + 2, 0, none⟩ = some (.slice aV es.length cV) := cellB hO3.q2 0
      have n1 : w3.cell? ⟨w.heap.size + 2, 1, none⟩ = some (.slice none 0 0) := cellB hO3.q2 1
      have z1 := frozenB hO3.q2 1
      have r0 : w3.cell? ⟨w.heap.size + 1, 0, none⟩ = some (.slice none 0 0) := cellB hO3.q1 0
      have r1 : w3.cell? ⟨w.heap.size + 1, 1, none⟩ = some (.slice none 0 0) := cellB hO3.q1 1
      have y0 := frozenB hO3.q1 0
      have y1 := frozenB hO3.q1 1
      have hP : PR w3 w.heap.size es p.defs (.slice aV es.length cV) (.slice aD p.defs.length cD) := ⟨hO3.pr.rowF, row_base hoD hw0, hO3.pr.bytes, hO3.pr.small, hsD.out, hO3.pr.rels⟩
      have q2' : (w3.setCell ⟨w.heap.size + 2, 1, none⟩ (.slice aD p.defs.length cD)).heap[w.heap.size + 1]? = some (.cells #[.slice none 0 0, .slice none 0 0] 25 (0, 0)) := (Below.heap_setCell _ _ _ _ (by show w.heap.size + 1 ≠ w.heap.size + 2; omega)).trans hO3.q1
      have q3' : ((w3.setCell ⟨w.heap.size + 2, 1, none⟩ (.slice aD p.defs.length cD)).setCell ⟨w.heap.size + 1, 0, none⟩ (.slice aV es.length cV)).heap[w.heap.size + 1]? = some (.cells #[.slice aV es.length cV, .slice none 0 0] 25 (0, 0)) := setB' q2' _
      have HP : Hid (PR (((w3.setCell ⟨w.heap.size + 2, 1, none⟩ (.slice aD p.defs.length cD)).setCell ⟨w.heap.size + 1, 0, none⟩ (.slice aV es.length cV)).setCell ⟨w.heap.size + 1, 1, none⟩ (.slice aD p.defs.length cD)) w.heap.size es p.defs (.slice aV es.length cV) (.slice aD p.defs.length cD)) := ((hP.set hO3.q2).set q2').set q3'
      have HB : Hid (Below w.heap.size w (((w3.setCell ⟨w.heap.size + 2, 1, none⟩ (.slice aD p.defs.length cD)).setCell ⟨w.heap.size + 1, 0, none⟩ (.slice aV es.length cV)).setCell ⟨w.heap.size + 1, 1, none⟩ (.slice aD p.defs.length cD))) := ((hO3.below.setCell (by show w.heap.size ≤ w.heap.size + 2; omega) _).setCell (by show w.heap.size ≤ w.heap.size + 1; omega) _).setCell (by show w.heap.size ≤ w.heap.size + 1; omega) _
      have HAp : Hid (es.Pairwise Apart) := hO3.ap
      clear hO3 hP q2' q3' hoD hg3 HO3 sD c11 HM n1'
      refine Lib.hid ?_
      go_wp2
      refine bodyPost_ret (v := .agg #[.slice aV es.length cV, .slice aD p.defs.length cD]) (by simp [results, Try.results72, go_sem, r0, r1]) rfl ?_
      exact ⟨HB.out, es, _, _, rfl, HP.out, HE2.out, HAp.out⟩

end Go.Proofs.Ytebhbhbhcoijpaa
