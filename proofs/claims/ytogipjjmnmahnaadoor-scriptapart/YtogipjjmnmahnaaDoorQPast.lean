/-
  A region that draws its order: one operation that may come up, and what the others can do ahead of it.
-/
import Derived.StillTail
namespace Go.Proofs.YtogipjjmnmahnaaDoor
open Go

section
variable {md : Region.Mode} {ops : Array Oper} {m i j : Nat} {oi oj : Oper} {l0 l : Array Bool} {G : Array Bool → Prop}

/-- while one of the first m is still to come, none of the rest comes up (G: what else is known of those that are done; it stays so) -/
structure Waits (md : Region.Mode) (ops : Array Oper) (m : Nat) (G : Array Bool → Prop) : Prop where
  out : ∀ l, HeadInv md ops m l → G l → ∀ i, i < m → l.getD i true = false → ∀ t ∈ Region.ready md ops l, t < m
  keep : ∀ l j, G l → G (l.setIfInBounds j true)

theorem waits_all (hs : Region.sinkB md ops m = true) (hc : Region.chainB md ops m = true) (hm : m < ops.size) : Waits md ops m fun _ => True where
  out _ inv _ i him hu t ht := Nat.lt_of_not_le fun h => tail_waits hs hc hm inv _ i rfl him hu t h ht
  keep _ _ h := h

/-- the i-th could come up at l0, and up to l nothing of that has changed: it may still come up, and no other has come back -/
structure Past (md : Region.Mode) (ops : Array Oper) (m : Nat) (G : Array Bool → Prop) (i : Nat) (l0 l : Array Bool) : Prop where
  inv : HeadInv md ops m l
  more : G l
  up : i ∈ Region.ready md ops l
  sub : ∀ k, l.getD k true = false → l0.getD k true = false

theorem Past.busy (h : Past md ops m G i l0 l) : Region.ready md ops l ≠ [] := List.ne_nil_of_mem h.up
theorem Past.head (h : Past md ops m G i l0 l) (hW : Waits md ops m G) (him : i < m) (hj : j ∈ Region.ready md ops l) : j < m :=
  hW.out l h.inv h.more i him (mem_ready.1 h.up).1 j hj
theorem Past.set (h : Past md ops m G i l0 l) (hW : Waits md ops m G) (him : i < m) (hj : j ∈ Region.ready md ops l) (hne : j ≠ i) : Past md ops m G i l0 (l.setIfInBounds j true) where
  inv := h.inv.set hj (h.head hW him hj)
  more := hW.keep _ _ h.more
  up := ready_mono h.up (Ne.symm hne)
  sub k hk := h.sub k (by
    rcases Nat.decEq j k with e | rfl
    · rwa [getD_set_ne true e] at hk
    · exact (mem_ready.1 hj).1)
/-- what may come up beside it lies apart from it -/
theorem Past.apart (h : Past md ops m G i l0 l) (hi : ops[i]? = some oi) (hF : Region.free md ops l0 i = true) (hj : j ∈ Region.ready md ops l) (hne : j ≠ i) (ho : ops[j]? = some oj) : oi.apart ops oj = true := by
  obtain ⟨hu, o, ho', hw⟩ := mem_ready.1 hj
  cases ho'.symm.trans ho
  refine Region.free_spec hi hF j _ ho hne (h.sub j hu) fun e he hb hon => ?_
  have h1 := hw e he hb
  rw [hon, getD_both (mem_ready.1 h.up).1] at h1
  exact Bool.noConfusion h1

theorem start_inv (md : Region.Mode) (ops : Array Oper) (m : Nat) : HeadInv md ops m (Array.replicate ops.size false) where
  size := Array.size_replicate
  closed j _ _ h := by rw [getD_replicate_false] at h; exact Bool.noConfusion h
  tail t _ ht := getD_in (by rwa [Array.size_replicate]) (getD_replicate_false _ t)

end
end Go.Proofs.YtogipjjmnmahnaaDoor
