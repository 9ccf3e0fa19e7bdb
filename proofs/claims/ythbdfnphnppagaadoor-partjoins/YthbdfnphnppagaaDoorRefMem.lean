/-
  Appending to a slice that has nothing and no room; fragments whose lists of places lie apart; a part's numbers stay within what memory holds.
-/
import Derived.Test.YthbdfnphnppagaaDoorPrtJoin
import Derived.Deep.AppendLies
namespace Go.Proofs.YthbdfnphnppagaaDoor
open Go Go.RowKit
set_option linter.unusedVariables false

theorem own_empty {w : World} {N g k : Nat} {e : TypeId} (hg : w.heap[g]? = some (.cells #[] e (0, 0))) (hN : N ≤ g) : w.ownsRow N e k (.slice (some ⟨g, 0, none⟩) 0 0) 0 [] :=
  ⟨by simp, .inr ⟨g, 0, #[], rfl, hN, hg, Nat.le_refl _, Nat.zero_le _, by simp, by simp⟩⟩

theorem step_append_empty {P : Program} {w : World} {ops : Array Oper} {o : Oper} {a : Act} {K : Act → World → Prop} {Q : Exit → Act → World → Prop} {E : Prop} (hgd : o.guard = none) (s x : Operand) (t : TypeId)
    (ho : o.op = .call { callee := .builtin .append, args := #[s, x], argTypes := #[t, t] })
    (N : Nat) (e : TypeId) (i : TypeInfo) (z : Value) (size bytes : Nat) (ht : P.underlying t = some (.slice e)) (hi : P.info? e = some i) (hz : i.zero = some z)
    (hsize : i.size = size) (hby : i.bytes = bytes) (hzs : z.cells.size = size) (hsz : 0 < size)
    (g : Nat) (hs : a.eval s = .slice (some ⟨g, 0, none⟩) 0 0) (hg : w.heap[g]? = some (.cells #[] e (0, 0))) (hN : N ≤ g)
    (u : Value) (m : Nat) (news : List Value) (hx : a.eval x = u) (hsrc : Src w u m news) (hl : news.length = m * size) (h1 : ∀ u ∈ news, u.oneCell' = true)
    (h63 : m ≤ maxLen) (hbytes : m * bytes ≤ 140737488355328)
    (h : ∀ v' w', w'.ownsRow N e size v' m news → w.grownBy w' (some g) → K (a.put o.dst v') w') :
    if Region.wanted o (yielded ops a.tmps) = true then Oper.wp P o a w K Q else E := by
  have hw : Region.wanted o (yielded ops a.tmps) = true := by simp [Region.wanted, hgd]
  rw [if_pos hw]
  have hlt := (Array.getElem?_eq_some_iff.1 hg).1
  refine wp_append_src w s x t ho N e i z size bytes ht hi hz hsize hby hzs hsz _ 0 [] hs (own_empty hg hN) u m news hx hsrc hl h1 (by omega) (by rw [Nat.zero_add]; exact hbytes) (by omega) fun v' w' h2 h3 => ?_
  rw [Nat.zero_add, List.nil_append] at h2
  exact h v' w' h2 h3

/-- two lists of places lie apart -/
def Apart (a b : Ent) : Prop := a.rv.ownBlock = none ∨ b.rv.ownBlock = none ∨ a.rv.ownBlock ≠ b.rv.ownBlock

theorem flat_len {α : Type} (k : Nat) (f : α → List Value) (hf : ∀ x, (f x).length = k) : ∀ l : List α, (l.flatMap f).length = l.length * k
  | [] => by simp
  | x :: l => by rw [List.flatMap_cons, List.length_append, flat_len k f hf l, hf, List.length_cons, Nat.add_mul]; omega

theorem RelsAt.src {w : World} {v : Value} {rs : List M.Rel} (h : RelsAt w v rs) : Src w v rs.length (rs.flatMap encRel) :=
  h.1.src (by decide) _ (flat_len 5 encRel (fun _ => rfl) rs) (fun j i hj hi => by
    rw [flat_get 5 encRel (fun _ => rfl) rs j i hi, getElem?_getD rs rel0 j hj]
    rcases (by omega : i = 0 ∨ i = 1 ∨ i = 2 ∨ i = 3 ∨ i = 4) with rfl | rfl | rfl | rfl | rfl <;> rfl)

theorem DefsAt.src {w : World} {v : Value} {ds : List M.Dfn} (h : DefsAt w v ds) : Src w v ds.length (ds.flatMap encDfn) :=
  h.1.src (by decide) _ (flat_len 6 encDfn (fun _ => rfl) ds) (fun j i hj hi => by
    rw [flat_get 6 encDfn (fun _ => rfl) ds j i hi, getElem?_getD ds dfn0 j hj]
    rcases (by omega : i = 0 ∨ i = 1 ∨ i = 2 ∨ i = 3 ∨ i = 4 ∨ i = 5) with rfl | rfl | rfl | rfl | rfl | rfl <;> rfl)

theorem rels_one (rs : List M.Rel) : ∀ u ∈ rs.flatMap encRel, u.oneCell' = true := by
  intro u hu
  obtain ⟨d, _, hu⟩ := List.mem_flatMap.1 hu
  unfold encRel at hu
  simp only [List.mem_cons, List.not_mem_nil, or_false] at hu
  rcases hu with rfl | rfl | rfl | rfl | rfl <;> rfl

theorem bytes_one (bs : List Int) : ∀ u ∈ bs.map (Value.int .u8), u.oneCell' = true := by
  intro u hu
  obtain ⟨b, _, rfl⟩ := List.mem_map.1 hu
  rfl

/-- what can be copied -/
structure Room (p : M.Prt) : Prop where
  nf : p.frags.length * 88 ≤ 140737488355328
  nd : p.defs.length * 56 ≤ 140737488355328
  bytes : ∀ f ∈ p.frags, f.bytes.length ≤ 140737488355328
  rels : ∀ f ∈ p.frags, f.rels.length * 48 ≤ 140737488355328

theorem room_ok {p : M.Prt} (h : M.Ok p) : Room p := by
  have h1 := h.nf
  have h2 := h.nd
  refine ⟨by omega, by omega, fun f hf => ?_, fun f hf => ?_⟩
  · have := (len_ok f (h.shape f hf)).1; omega
  · have := (len_ok f (h.shape f hf)).2; omega

end Go.Proofs.YthbdfnphnppagaaDoor
