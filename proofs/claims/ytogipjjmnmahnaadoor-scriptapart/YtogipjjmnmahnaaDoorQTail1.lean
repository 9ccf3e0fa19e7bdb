/-
  As the text before it, where the first operation of all is a copy that only the last one waits for: it is taken first.
-/
import Derived.Test.YtogipjjmnmahnaaDoorQTail
namespace Go.Proofs.YtogipjjmnmahnaaDoor
open Go Go.RowKit

section
variable {P : Program} {ops : Array Oper} {md : Region.Mode} {C : World → Prop}

/-- each of the first n but the very first is waited for by one that comes behind it, up to the n-th -/
def sinkFrom (md : Region.Mode) (ops : Array Oper) (n : Nat) : Bool :=
  (List.range n).all fun i => decide (i = 0) || (List.range (n + 1)).any fun j => decide (i < j) && Region.waitsFor md ops j i

/-- if one of the rest may come up, all of the first n are done -/
theorem done_of_rest {n t : Nat} {l : Array Bool} (hs : sinkFrom md ops n = true) (hc : Region.chainB md ops n = true) (inv : HeadInv md ops n l) (h0 : l.getD 0 false = true) (ht : t ∈ Region.ready md ops l) (hnt : n ≤ t) (d : Nat) :
    ∀ i, i < n → n ≤ i + d → l.getD i false = true := by
  obtain ⟨_, ot, hot, hall⟩ := mem_ready.1 ht
  have hts := (Array.getElem?_eq_some_iff.1 hot).1
  have hon : ∀ k, Region.waitsFor md ops t k = true → l.getD k false = true := fun k hk => by
    obtain ⟨o, ho, e, he, hb, rfl⟩ := Region.waitsFor_spec hk
    cases hot.symm.trans ho
    exact hall e he hb
  obtain rfl : n = t := Decidable.byContradiction fun hne => by
    have h1 := List.all_eq_true.1 hc t (List.mem_range.2 hts)
    rw [Bool.or_eq_true, decide_eq_true_eq] at h1
    have h2 := hon (t - 1) (h1.resolve_left (by omega))
    rw [getD_both (inv.tail (t - 1) (by omega) (by omega))] at h2
    exact Bool.noConfusion h2
  induction d with
  | zero => exact fun i h1 h2 => absurd h1 (Nat.not_lt.2 h2)
  | succ d ih =>
    intro i hi hd
    have h1 := List.all_eq_true.1 hs i (List.mem_range.2 hi)
    rw [Bool.or_eq_true, decide_eq_true_eq] at h1
    rcases h1 with rfl | h1
    · exact h0
    · obtain ⟨j, hj, h2⟩ := List.any_eq_true.1 h1
      rw [Bool.and_eq_true, decide_eq_true_eq] at h2
      rcases Nat.lt_or_eq_of_le (Nat.le_of_lt_succ (List.mem_range.1 hj)) with hjn | rfl
      · obtain ⟨o, ho, e, he, hb, rfl⟩ := Region.waitsFor_spec h2.2
        exact inv.closed j o ho (ih j hjn (by omega)) e he hb
      · exact hon i h2.2

theorem waits1 {n : Nat} (hs : sinkFrom md ops n = true) (hc : Region.chainB md ops n = true) : Waits md ops n fun l => l.getD 0 false = true where
  out l inv h0 i hi hu t ht := Nat.lt_of_not_le fun hnt => by
    have h1 := done_of_rest hs hc inv h0 ht hnt n i hi (by omega)
    rw [getD_both hu] at h1
    exact Bool.noConfusion h1
  keep _ _ h := getD_set_true h

def lexTail1B (ops : Array Oper) (n : Nat) : Bool :=
  Region.noSelect ops && decide (1 ≤ n) && decide (n < ops.size) && sinkFrom .any ops n && Region.chainB .any ops n && Region.free .any ops (Array.replicate ops.size false) 0 && (Region.ready .any ops (Array.replicate ops.size false)).contains 0
    && Region.lexHead .any ops (ops.size - n) (n - 1) 1 ((Array.replicate ops.size false).setIfInBounds 0 true)

theorem wp_region_tail1C {id : Nat} {Q : Exit → Act → World → Prop} {a : Act} {w : World} {o0 : Oper} {l : List Oper} {v : Value} (n : Nat) (hm : P.follows .mixedOrders = true) (hB : lexTail1B (o0 :: l).toArray (n + 1) = true) (hC : C { w with drawn := w.drawn + 1 })
    (hQ : ∀ c a w, Q (.panic c) (a.put o0.dst v) w → Q (.panic c) a w) (hy : Yields P (o0 :: l).toArray o0 v a)
    (h : wpQuiet P (o0 :: l).toArray C (fun a' => ∀ w', C w' → wpList P (o0 :: l).toArray Q (l.drop n) a' w') (l.take n) (a.put o0.dst v)) : (Code.region id (o0 :: l).toArray true).wp P Q a w := by
  unfold lexTail1B at hB
  simp only [Bool.and_eq_true, decide_eq_true_eq] at hB
  obtain ⟨⟨⟨⟨⟨⟨⟨hsel, _⟩, hn⟩, hs⟩, hc⟩, hfr⟩, hrd⟩, hlex⟩ := hB
  have hnl : n < l.length := by rw [List.size_toArray, List.length_cons] at hn; omega
  have hlen : (l.take n).length = n := List.length_take_of_le (Nat.le_of_lt hnl)
  have H := headQ_lex (P := P) (C := C) (g := (o0 :: l).length - (n + 1)) (waits1 hs hc) hsel (l.take n) (k := 1) ⟨l.drop n, (List.take_append_drop n l).symm⟩ (by rw [hlen, Nat.add_comm])
    ((start_inv .any (o0 :: l).toArray (n + 1)).set (List.contains_iff_mem.1 hrd) (Nat.succ_pos n)) (by simp) (by rw [hlen]; exact hlex) h
  rw [hlen] at H
  have h1 := any_of_tail (Q := Q) (l := o0 :: l) hC H
  have h2 := wpAny_take (i := 0) (oi := o0) rfl hsel hfr hrd hQ hy h1
  rw [show (o0 :: l).length - (n + 1) + n + 1 = (o0 :: l).toArray.size by rw [List.size_toArray, List.length_cons]; omega] at h2
  exact wp_region_any hm h2

end

theorem wp_region_tail1 {P : Program} {id : Nat} {Q : Exit → Act → World → Prop} {a : Act} {w : World} {o0 : Oper} {l : List Oper} {v : Value} (n : Nat) (hm : P.follows .mixedOrders = true) (hB : lexTail1B (o0 :: l).toArray (n + 1) = true)
    (hQ : ∀ c a w, Q (.panic c) (a.put o0.dst v) w → Q (.panic c) a w) (hy : Yields P (o0 :: l).toArray o0 v a)
    (h : Nonempty (Lat w) → wpQuiet P (o0 :: l).toArray (fun w' => ∃ x : Lat w, w' = lat w x) (fun a' => ∀ w', (∃ x : Lat w, w' = lat w x) → wpList P (o0 :: l).toArray Q (l.drop n) a' w') (l.take n) (a.put o0.dst v)) : (Code.region id (o0 :: l).toArray true).wp P Q a w :=
  wp_region_tail1C (C := fun w' => ∃ x : Lat w, w' = lat w x) n hm hB ⟨⟨_, (Below.refl _ _).drew⟩, rfl⟩ hQ hy (h ⟨⟨_, Below.refl _ _⟩⟩)

end Go.Proofs.YtogipjjmnmahnaaDoor
