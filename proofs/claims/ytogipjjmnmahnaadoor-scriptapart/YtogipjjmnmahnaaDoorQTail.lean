/-
  A region that draws its order, whose first n operations are quiet (they yield one value in every world of a class, and leave a world of it), and whose rest comes behind them, one after another: one walk, in the order of the text.
-/
import Derived.Test.YtogipjjmnmahnaaDoorLater
import Derived.Test.YtogipjjmnmahnaaDoorQPast
namespace Go.Proofs.YtogipjjmnmahnaaDoor
open Go Go.RowKit

section
variable {P : Program} {ops : Array Oper} {md : Region.Mode} {C : World → Prop} {n g : Nat} {G : Array Bool → Prop}

/-- f of the first n come up, in whatever order; L then holds -/
def headQ (P : Program) (md : Region.Mode) (ops : Array Oper) (C : World → Prop) (n : Nat) (L : Array Bool → Act → Prop) : Nat → Array Bool → Act → Prop
  | 0, s, a => L s a
  | f + 1, s, a => Region.ready md ops s ≠ [] ∧ ∀ i ∈ Region.ready md ops s, i < n ∧ qOp P ops C i (headQ P md ops C n L f (s.setIfInBounds i true)) a

theorem any_of_headQ {L : Array Bool → Act → Prop} {Q : Exit → Act → World → Prop} (hL : ∀ s a w, C w → L s a → wpAny P md ops Q g s a w) (f : Nat) :
    ∀ {s : Array Bool} {a : Act} {w : World}, C w → headQ P md ops C n L f s a → wpAny P md ops Q (g + f) s a w := by
  induction f with
  | zero => exact fun hw h => hL _ _ _ hw h
  | succ f ih => exact fun hw h => ⟨fun h0 => absurd h0 h.1, fun i hi => wpOp_of_qOp hw (fun _ _ hw' h' => ih hw' h') (h.2 i hi).2⟩

theorem Past.firstQ {i : Nat} {oi : Oper} {v : Value} {l0 : Array Bool} {L : Array Bool → Act → Prop} (hW : Waits md ops n G) (hi : ops[i]? = some oi) (hin : i < n) (hF : Region.free md ops l0 i = true) (hs : Region.noSelect ops = true)
    (hL : ∀ s a, L s a → ∀ j ∈ Region.ready md ops s, n ≤ j) (f : Nat) :
    ∀ {s : Array Bool} {a : Act}, Past md ops n G i l0 s → YieldsIn P ops C oi v a → headQ P md ops C n L f (s.setIfInBounds i true) (a.put oi.dst v) → headQ P md ops C n L (f + 1) s a := by
  induction f with
  | zero =>
    intro s a h hy H
    refine ⟨h.busy, fun j hj => ⟨h.head hW hin hj, ?_⟩⟩
    rcases Nat.decEq j i with hne | rfl
    · exact absurd (h.head hW hin hj) (Nat.not_lt.2 (hL _ _ H j (ready_mono hj hne)))
    · exact hy.qOp hi H
  | succ f ih =>
    intro s a h hy H
    refine ⟨h.busy, fun j hj => ⟨h.head hW hin hj, ?_⟩⟩
    rcases Nat.decEq j i with hne | rfl
    · obtain ⟨oj, hoj⟩ : ∃ oj, ops[j]? = some oj := let ⟨_, o, ho, _⟩ := mem_ready.1 hj; ⟨o, ho⟩
      refine qOp_mono ?_ (qOp_put hoj (h.apart hi hF hj hne hoj) (fun _ _ => Region.noSelect_spec hs _ _ _ _ hi) (fun _ _ => Region.noSelect_spec hs _ _ _ _ hoj) hy (H.2 j (ready_mono hj hne)).2)
      rintro a' ⟨hy', H'⟩
      exact ih (h.set hW hin hj hne) hy' (by rwa [Array.setIfInBounds_comm _ _ hne])
    · exact hy.qOp hi H

theorem headQ_lex {Lq : Act → Prop} (hW : Waits md ops n G) (hs : Region.noSelect ops = true) (l : List Oper) :
    ∀ {k : Nat} {s : Array Bool} {a : Act}, (∃ r, ops.toList.drop k = l ++ r) → k + l.length = n → HeadInv md ops n s → G s → Region.lexHead md ops g l.length k s = true → wpQuiet P ops C Lq l a →
    headQ P md ops C n (fun s' a' => Region.seqB md ops g n s' = true ∧ Lq a') l.length s a := by
  induction l with
  | nil =>
    intro k s a _ hk _ _ hB h
    cases hk
    exact ⟨hB, h⟩
  | cons o l ih =>
    rintro k s a ⟨r, hd⟩ hk inv hG hB h
    have ho : ops[k]? = some o := by
      have h1 := congrArg List.head? hd
      rwa [List.head?_drop, Array.getElem?_toList] at h1
    have hd' : ops.toList.drop (k + 1) = l ++ r := by
      have h1 := congrArg List.tail hd
      rwa [List.tail_drop] at h1
    have hlt : k < n := by rw [← hk, List.length_cons]; omega
    have hB' := hB
    unfold Region.lexHead at hB'
    rw [List.length_cons] at hB'
    simp only [Bool.and_eq_true, List.contains_iff_mem] at hB'
    obtain ⟨v, hy, hK⟩ := yieldsIn_of_qOp (K := wpQuiet P ops C Lq l) ho (by unfold qOp; rw [ho]; exact h)
    exact Past.firstQ hW ho hlt hB'.1.2 hs (fun _ _ hL => seqB_ready hL.1) _ ⟨inv, hG, hB'.1.1, fun _ h => h⟩ hy
      (ih ⟨r, hd'⟩ (by rw [← hk, List.length_cons]; omega) (inv.set hB'.1.1 hlt) (hW.keep _ _ hG) hB'.2 hK)

theorem any_of_tail {Q : Exit → Act → World → Prop} {l : List Oper} {f : Nat} {s : Array Bool} {a : Act} {w : World} (hC : C w)
    (H : headQ P .any l.toArray C n (fun s' a' => Region.seqB .any l.toArray (l.length - n) n s' = true ∧ ∀ w', C w' → wpList P l.toArray Q (l.drop n) a' w') f s a) : wpAny P .any l.toArray Q (l.length - n + f) s a w :=
  any_of_headQ (fun s a w hw hL => by
    have h1 := wpAny_of_seq (P := P) (md := .any) (Q' := Q) (l.drop n) n s a w (fun j => by rw [List.getElem?_drop, List.getElem?_toArray]) (by rw [List.length_drop]; exact hL.1) (hL.2 w hw)
    rwa [List.length_drop] at h1) f hC H

theorem wp_region_tailC {id : Nat} {Q : Exit → Act → World → Prop} {a : Act} {w : World} {l : List Oper} (n : Nat) (hm : P.follows .mixedOrders = true) (hB : Region.lexTailB .any l.toArray n = true) (hC : C { w with drawn := w.drawn + 1 })
    (h : wpQuiet P l.toArray C (fun a' => ∀ w', C w' → wpList P l.toArray Q (l.drop n) a' w') (l.take n) a) : (Code.region id l.toArray true).wp P Q a w := by
  unfold Region.lexTailB at hB
  simp only [Bool.and_eq_true, decide_eq_true_eq, List.size_toArray] at hB
  have hlen : (l.take n).length = n := List.length_take_of_le (Nat.le_of_lt hB.1.1.1.2)
  have H := headQ_lex (g := l.length - n) (waits_all hB.1.1.2 hB.1.2 hB.1.1.1.2) hB.1.1.1.1 (l.take n) (k := 0) ⟨l.drop n, (List.take_append_drop n l).symm⟩ (by rw [hlen, Nat.zero_add]) (start_inv .any l.toArray n) trivial (by rw [hlen]; exact hB.2) h
  rw [hlen] at H
  have h1 := any_of_tail (Q := Q) hC H
  rw [Nat.sub_add_cancel (Nat.le_of_lt hB.1.1.1.2)] at h1
  exact wp_region_any hm h1

end

theorem wp_region_tail {P : Program} {id : Nat} {Q : Exit → Act → World → Prop} {a : Act} {w : World} {l : List Oper} (n : Nat) (hm : P.follows .mixedOrders = true) (hB : Region.lexTailB .any l.toArray n = true)
    (h : Nonempty (Lat w) → wpQuiet P l.toArray (fun w' => ∃ x : Lat w, w' = lat w x) (fun a' => ∀ w', (∃ x : Lat w, w' = lat w x) → wpList P l.toArray Q (l.drop n) a' w') (l.take n) a) : (Code.region id l.toArray true).wp P Q a w :=
  wp_region_tailC (C := fun w' => ∃ x : Lat w, w' = lat w x) n hm hB ⟨⟨_, (Below.refl _ _).drew⟩, rfl⟩ (h ⟨⟨_, Below.refl _ _⟩⟩)

end Go.Proofs.YtogipjjmnmahnaaDoor
