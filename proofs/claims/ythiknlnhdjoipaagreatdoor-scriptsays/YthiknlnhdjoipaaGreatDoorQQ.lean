/-
  A region that draws its order: one operation that may come up, and what the others can do ahead of it. A region that draws its order, whose first n operations are quiet (they yield one value in every world of a class, and leave a world of it), and whose rest comes behind them, one after another: one walk, in the order of the text. As the text before it, where the first operation of all is a copy that only the last one waits for: it is taken first. A region that draws its order, whose first n operations make memory of their own, each with a value that keeps to a relation of its own (it stands while memory grows), and whose rest comes behind them, one after another: each of the first is walked once.
-/
import Derived.StillTail
import Derived.Test.YthiknlnhdjoipaaGreatDoorMemB

namespace Go.Proofs.YthiknlnhdjoipaaGreatDoor
open Go

section
variable {md : Region.Mode} {ops : Array Oper} {m i j : Nat} {oi oj : Oper} {l0 l : Array Bool} {G : Array Bool → Prop}

/-- while one of the first m is still to come, none of the rest comes up (G: what else is known of those that are done; it stays so) -/
structure Waits (md : Region.Mode) (ops : Array Oper) (m : Nat) (G : Array Bool → Prop) : Prop where
  out : ∀ l, HeadInv md ops m l → G l → ∀ i, i < m → l.getD i true = false → ∀ t ∈ Region.ready md ops l, t < m
  keep : ∀ l j, G l → G (l.setIfInBounds j true)

theorem waits_all (hs : Region.sinkB md ops m = true) (hc : Region.chainB md ops m = true) (hm : m < ops.size) : Waits md ops m fun _ => True where
  out _ inv _ i him hu t ht := Nat.lt_of_not_le fun h => tail_waits hs hc hm inv _ i rfl him hu t h ht
  keep _ _ h := h

/-- the i-th could come up at l0, and up to l nothing of that has changed: it may still come up, and no other has come back -/
structure Past (md : Region.Mode) (ops : Array Oper) (m : Nat) (G : Array Bool → Prop) (i : Nat) (l0 l : Array Bool) : Prop where
  inv : HeadInv md ops m l
  more : G l
  up : i ∈ Region.ready md ops l
  sub : ∀ k, l.getD k true = false → l0.getD k true = false

theorem Past.busy (h : Past md ops m G i l0 l) : Region.ready md ops l ≠ [] := List.ne_nil_of_mem h.up
theorem Past.head (h : Past md ops m G i l0 l) (hW : Waits md ops m G) (him : i < m) (hj : j ∈ Region.ready md ops l) : j < m :=
  hW.out l h.inv h.more i him (mem_ready.1 h.up).1 j hj
theorem Past.set (h : Past md ops m G i l0 l) (hW : Waits md ops m G) (him : i < m) (hj : j ∈ Region.ready md ops l) (hne : j ≠ i) : Past md ops m G i l0 (l.setIfInBounds j true) where
  inv := h.inv.set hj (h.head hW him hj)
  more := hW.keep _ _ h.more
  up := ready_mono h.up (Ne.symm hne)
  sub k hk := h.sub k (by
    rcases Nat.decEq j k with e | rfl
    · rwa [getD_set_ne true e] at hk
    · exact (mem_ready.1 hj).1)
/-- what may come up beside it lies apart from it -/
theorem Past.apart (h : Past md ops m G i l0 l) (hi : ops[i]? = some oi) (hF : Region.free md ops l0 i = true) (hj : j ∈ Region.ready md ops l) (hne : j ≠ i) (ho : ops[j]? = some oj) : oi.apart ops oj = true := by
  obtain ⟨hu, o, ho', hw⟩ := mem_ready.1 hj
  cases ho'.symm.trans ho
  refine Region.free_spec hi hF j _ ho hne (h.sub j hu) fun e he hb hon => ?_
  have h1 := hw e he hb
  rw [hon, getD_both (mem_ready.1 h.up).1] at h1
  exact Bool.noConfusion h1

theorem start_inv (md : Region.Mode) (ops : Array Oper) (m : Nat) : HeadInv md ops m (Array.replicate ops.size false) where
  size := Array.size_replicate
  closed j _ _ h := by rw [getD_replicate_false] at h; exact Bool.noConfusion h
  tail t _ ht := getD_in (by rwa [Array.size_replicate]) (getD_replicate_false _ t)

end
end Go.Proofs.YthiknlnhdjoipaaGreatDoor

namespace Go.Proofs.YthiknlnhdjoipaaGreatDoor
open Go Go.RowKit

section
variable {P : Program} {ops : Array Oper} {md : Region.Mode} {C : World → Prop} {n g : Nat} {G : Array Bool → Prop}

/-- f of the first n come up, in whatever order; L then holds -/
def headQ (P : Program) (md : Region.Mode) (ops : Array Oper) (C : World → Prop) (n : Nat) (L : Array Bool → Act → Prop) : Nat → Array Bool → Act → Prop
  | 0, s, a => L s a
  | f + 1, s, a => Region.ready md ops s ≠ [] ∧ ∀ i ∈ Region.ready md ops s, i < n ∧ qOp P ops C i (headQ P md ops C n L f (s.setIfInBounds i true)) a

theorem any_of_headQ {L : Array Bool → Act → Prop} {Q : Exit → Act → World → Prop} (hL : ∀ s a w, C w → L s a → wpAny P md ops Q g s a w) (f : Nat) :
    ∀ {s : Array Bool} {a : Act} {w : World}, C w → headQ P md ops C n L f s a → wpAny P md ops Q (g + f) s a w := by
  induction f with
  | zero => exact fun hw h => hL _ _ _ hw h
  | succ f ih => exact fun hw h => ⟨fun h0 => absurd h0 h.1, fun i hi => wpOp_of_qOp hw (fun _ _ hw' h' => ih hw' h') (h.2 i hi).2⟩

theorem Past.firstQ {i : Nat} {oi : Oper} {v : Value} {l0 : Array Bool} {L : Array Bool → Act → Prop} (hW : Waits md ops n G) (hi : ops[i]? = some oi) (hin : i < n) (hF : Region.free md ops l0 i = true) (hs : Region.noSelect ops = true)
    (hL : ∀ s a, L s a → ∀ j ∈ Region.ready md ops s, n ≤ j) (f : Nat) :
    ∀ {s : Array Bool} {a : Act}, Past md ops n G i l0 s → YieldsIn P ops C oi v a → headQ P md ops C n L f (s.setIfInBounds i true) (a.put oi.dst v) → headQ P md ops C n L (f + 1) s a := by
  induction f with
  | zero =>
    intro s a h hy H
    refine ⟨h.busy, fun j hj => ⟨h.head hW hin hj, ?_⟩⟩
    rcases Nat.decEq j i with hne | rfl
    · exact absurd (h.head hW hin hj) (Nat.not_lt.2 (hL _ _ H j (ready_mono hj hne)))
    · exact hy.qOp hi H
  | succ f ih =>
    intro s a h hy H
    refine ⟨h.busy, fun j hj => ⟨h.head hW hin hj, ?_⟩⟩
    rcases Nat.decEq j i with hne | rfl
    · obtain ⟨oj, hoj⟩ : ∃ oj, ops[j]? = some oj := let ⟨_, o, ho, _⟩ := mem_ready.1 hj; ⟨o, ho⟩
      refine qOp_mono ?_ (qOp_put hoj (h.apart hi hF hj hne hoj) (fun _ _ => Region.noSelect_spec hs _ _ _ _ hi) (fun _ _ => Region.noSelect_spec hs _ _ _ _ hoj) hy (H.2 j (ready_mono hj hne)).2)
      rintro a' ⟨hy', H'⟩
      exact ih (h.set hW hin hj hne) hy' (by rwa [Array.setIfInBounds_comm _ _ hne])
    · exact hy.qOp hi H

theorem headQ_lex {Lq : Act → Prop} (hW : Waits md ops n G) (hs : Region.noSelect ops = true) (l : List Oper) :
    ∀ {k : Nat} {s : Array Bool} {a : Act}, (∃ r, ops.toList.drop k = l ++ r) → k + l.length = n → HeadInv md ops n s → G s → Region.lexHead md ops g l.length k s = true → wpQuiet P ops C Lq l a →
    headQ P md ops C n (fun s' a' => Region.seqB md ops g n s' = true ∧ Lq a') l.length s a := by
  induction l with
  | nil =>
    intro k s a _ hk _ _ hB h
    cases hk
    exact ⟨hB, h⟩
  | cons o l ih =>
    rintro k s a ⟨r, hd⟩ hk inv hG hB h
    have ho : ops[k]? = some o := by
      have h1 := congrArg List.head? hd
      rwa [List.head?_drop, Array.getElem?_toList] at h1
    have hd' : ops.toList.drop (k + 1) = l ++ r := by
      have h1 := congrArg List.tail hd
      rwa [List.tail_drop] at h1
    have hlt : k < n := by rw [← hk, List.length_cons]; omega
    have hB' := hB
    unfold Region.lexHead at hB'
    rw [List.length_cons] at hB'
    simp only [Bool.and_eq_true, List.contains_iff_mem] at hB'
    obtain ⟨v, hy, hK⟩ := yieldsIn_of_qOp (K := wpQuiet P ops C Lq l) ho (by unfold qOp; rw [ho]; exact h)
    exact Past.firstQ hW ho hlt hB'.1.2 hs (fun _ _ hL => seqB_ready hL.1) _ ⟨inv, hG, hB'.1.1, fun _ h => h⟩ hy
      (ih ⟨r, hd'⟩ (by rw [← hk, List.length_cons]; omega) (inv.set hB'.1.1 hlt) (hW.keep _ _ hG) hB'.2 hK)

theorem any_of_tail {Q : Exit → Act → World → Prop} {l : List Oper} {f : Nat} {s : Array Bool} {a : Act} {w : World} (hC : C w)
    (H : headQ P .any l.toArray C n (fun s' a' => Region.seqB .any l.toArray (l.length - n) n s' = true ∧ ∀ w', C w' → wpList P l.toArray Q (l.drop n) a' w') f s a) : wpAny P .any l.toArray Q (l.length - n + f) s a w :=
  any_of_headQ (fun s a w hw hL => by
    have h1 := wpAny_of_seq (P := P) (md := .any) (Q' := Q) (l.drop n) n s a w (fun j => by rw [List.getElem?_drop, List.getElem?_toArray]) (by rw [List.length_drop]; exact hL.1) (hL.2 w hw)
    rwa [List.length_drop] at h1) f hC H

theorem wp_region_tailC {id : Nat} {Q : Exit → Act → World → Prop} {a : Act} {w : World} {l : List Oper} (n : Nat) (hm : P.follows .mixedOrders = true) (hB : Region.lexTailB .any l.toArray n = true) (hC : C { w with drawn := w.drawn + 1 })
    (h : wpQuiet P l.toArray C (fun a' => ∀ w', C w' → wpList P l.toArray Q (l.drop n) a' w') (l.take n) a) : (Code.region id l.toArray true).wp P Q a w := by
  unfold Region.lexTailB at hB
  simp only [Bool.and_eq_true, decide_eq_true_eq, List.size_toArray] at hB
  have hlen : (l.take n).length = n := List.length_take_of_le (Nat.le_of_lt hB.1.1.1.2)
  have H := headQ_lex (g := l.length - n) (waits_all hB.1.1.2 hB.1.2 hB.1.1.1.2) hB.1.1.1.1 (l.take n) (k := 0) ⟨l.drop n, (List.take_append_drop n l).symm⟩ (by rw [hlen, Nat.zero_add]) (start_inv .any l.toArray n) trivial (by rw [hlen]; exact hB.2) h
  rw [hlen] at H
  have h1 := any_of_tail (Q := Q) hC H
  rw [Nat.sub_add_cancel (Nat.le_of_lt hB.1.1.1.2)] at h1
  exact wp_region_any hm h1

end

theorem wp_region_tail {P : Program} {id : Nat} {Q : Exit → Act → World → Prop} {a : Act} {w : World} {l : List Oper} (n : Nat) (hm : P.follows .mixedOrders = true) (hB : Region.lexTailB .any l.toArray n = true)
    (h : Nonempty (Lat w) → wpQuiet P l.toArray (fun w' => ∃ x : Lat w, w' = lat w x) (fun a' => ∀ w', (∃ x : Lat w, w' = lat w x) → wpList P l.toArray Q (l.drop n) a' w') (l.take n) a) : (Code.region id l.toArray true).wp P Q a w :=
  wp_region_tailC (C := fun w' => ∃ x : Lat w, w' = lat w x) n hm hB ⟨⟨_, (Below.refl _ _).drew⟩, rfl⟩ (h ⟨⟨_, Below.refl _ _⟩⟩)

end Go.Proofs.YthiknlnhdjoipaaGreatDoor

namespace Go.Proofs.YthiknlnhdjoipaaGreatDoor
open Go Go.RowKit

section
variable {P : Program} {ops : Array Oper} {md : Region.Mode} {C : World → Prop}

/-- each of the first n but the very first is waited for by one that comes behind it, up to the n-th -/
def sinkFrom (md : Region.Mode) (ops : Array Oper) (n : Nat) : Bool :=
  (List.range n).all fun i => decide (i = 0) || (List.range (n + 1)).any fun j => decide (i < j) && Region.waitsFor md ops j i

/-- if one of the rest may come up, all of the first n are done -/
theorem done_of_rest {n t : Nat} {l : Array Bool} (hs : sinkFrom md ops n = true) (hc : Region.chainB md ops n = true) (inv : HeadInv md ops n l) (h0 : l.getD 0 false = true) (ht : t ∈ Region.ready md ops l) (hnt : n ≤ t) (d : Nat) :
    ∀ i, i < n → n ≤ i + d → l.getD i false = true := by
  obtain ⟨_, ot, hot, hall⟩ := mem_ready.1 ht
  have hts := (Array.getElem?_eq_some_iff.1 hot).1
  have hon : ∀ k, Region.waitsFor md ops t k = true → l.getD k false = true := fun k hk => by
    obtain ⟨o, ho, e, he, hb, rfl⟩ := Region.waitsFor_spec hk
    cases hot.symm.trans ho
    exact hall e he hb
  obtain rfl : n = t := Decidable.byContradiction fun hne => by
    have h1 := List.all_eq_true.1 hc t (List.mem_range.2 hts)
    rw [Bool.or_eq_true, decide_eq_true_eq] at h1
    have h2 := hon (t - 1) (h1.resolve_left (by omega))
    rw [getD_both (inv.tail (t - 1) (by omega) (by omega))] at h2
    exact Bool.noConfusion h2
  induction d with
  | zero => exact fun i h1 h2 => absurd h1 (Nat.not_lt.2 h2)
  | succ d ih =>
    intro i hi hd
    have h1 := List.all_eq_true.1 hs i (List.mem_range.2 hi)
    rw [Bool.or_eq_true, decide_eq_true_eq] at h1
    rcases h1 with rfl | h1
    · exact h0
    · obtain ⟨j, hj, h2⟩ := List.any_eq_true.1 h1
      rw [Bool.and_eq_true, decide_eq_true_eq] at h2
      rcases Nat.lt_or_eq_of_le (Nat.le_of_lt_succ (List.mem_range.1 hj)) with hjn | rfl
      · obtain ⟨o, ho, e, he, hb, rfl⟩ := Region.waitsFor_spec h2.2
        exact inv.closed j o ho (ih j hjn (by omega)) e he hb
      · exact hon i h2.2

theorem waits1 {n : Nat} (hs : sinkFrom md ops n = true) (hc : Region.chainB md ops n = true) : Waits md ops n fun l => l.getD 0 false = true where
  out l inv h0 i hi hu t ht := Nat.lt_of_not_le fun hnt => by
    have h1 := done_of_rest hs hc inv h0 ht hnt n i hi (by omega)
    rw [getD_both hu] at h1
    exact Bool.noConfusion h1
  keep _ _ h := getD_set_true h

def lexTail1B (ops : Array Oper) (n : Nat) : Bool :=
  Region.noSelect ops && decide (1 ≤ n) && decide (n < ops.size) && sinkFrom .any ops n && Region.chainB .any ops n && Region.free .any ops (Array.replicate ops.size false) 0 && (Region.ready .any ops (Array.replicate ops.size false)).contains 0
    && Region.lexHead .any ops (ops.size - n) (n - 1) 1 ((Array.replicate ops.size false).setIfInBounds 0 true)

theorem wp_region_tail1C {id : Nat} {Q : Exit → Act → World → Prop} {a : Act} {w : World} {o0 : Oper} {l : List Oper} {v : Value} (n : Nat) (hm : P.follows .mixedOrders = true) (hB : lexTail1B (o0 :: l).toArray (n + 1) = true) (hC : C { w with drawn := w.drawn + 1 })
    (hQ : ∀ c a w, Q (.panic c) (a.put o0.dst v) w → Q (.panic c) a w) (hy : Yields P (o0 :: l).toArray o0 v a)
    (h : wpQuiet P (o0 :: l).toArray C (fun a' => ∀ w', C w' → wpList P (o0 :: l).toArray Q (l.drop n) a' w') (l.take n) (a.put o0.dst v)) : (Code.region id (o0 :: l).toArray true).wp P Q a w := by
  unfold lexTail1B at hB
  simp only [Bool.and_eq_true, decide_eq_true_eq] at hB
  obtain ⟨⟨⟨⟨⟨⟨⟨hsel, _⟩, hn⟩, hs⟩, hc⟩, hfr⟩, hrd⟩, hlex⟩ := hB
  have hnl : n < l.length := by rw [List.size_toArray, List.length_cons] at hn; omega
  have hlen : (l.take n).length = n := List.length_take_of_le (Nat.le_of_lt hnl)
  have H := headQ_lex (P := P) (C := C) (g := (o0 :: l).length - (n + 1)) (waits1 hs hc) hsel (l.take n) (k := 1) ⟨l.drop n, (List.take_append_drop n l).symm⟩ (by rw [hlen, Nat.add_comm])
    ((start_inv .any (o0 :: l).toArray (n + 1)).set (List.contains_iff_mem.1 hrd) (Nat.succ_pos n)) (by simp) (by rw [hlen]; exact hlex) h
  rw [hlen] at H
  have h1 := any_of_tail (Q := Q) (l := o0 :: l) hC H
  have h2 := wpAny_take (i := 0) (oi := o0) rfl hsel hfr hrd hQ hy h1
  rw [show (o0 :: l).length - (n + 1) + n + 1 = (o0 :: l).toArray.size by rw [List.size_toArray, List.length_cons]; omega] at h2
  exact wp_region_any hm h2

end

theorem wp_region_tail1 {P : Program} {id : Nat} {Q : Exit → Act → World → Prop} {a : Act} {w : World} {o0 : Oper} {l : List Oper} {v : Value} (n : Nat) (hm : P.follows .mixedOrders = true) (hB : lexTail1B (o0 :: l).toArray (n + 1) = true)
    (hQ : ∀ c a w, Q (.panic c) (a.put o0.dst v) w → Q (.panic c) a w) (hy : Yields P (o0 :: l).toArray o0 v a)
    (h : Nonempty (Lat w) → wpQuiet P (o0 :: l).toArray (fun w' => ∃ x : Lat w, w' = lat w x) (fun a' => ∀ w', (∃ x : Lat w, w' = lat w x) → wpList P (o0 :: l).toArray Q (l.drop n) a' w') (l.take n) (a.put o0.dst v)) : (Code.region id (o0 :: l).toArray true).wp P Q a w :=
  wp_region_tail1C (C := fun w' => ∃ x : Lat w, w' = lat w x) n hm hB ⟨⟨_, (Below.refl _ _).drew⟩, rfl⟩ hQ hy (h ⟨⟨_, Below.refl _ _⟩⟩)

end Go.Proofs.YthiknlnhdjoipaaGreatDoor

namespace Go.Proofs.YthiknlnhdjoipaaGreatDoor
open Go
set_option linter.unusedVariables false

def upd (v : Nat → Value) (j : Nat) (u : Value) : Nat → Value := fun k => bif Nat.beq k j then u else v k
theorem upd_self (v : Nat → Value) (j : Nat) (u : Value) : upd v j u j = u := by simp [upd]
theorem upd_ne (v : Nat → Value) (j k : Nat) (u : Value) (h : k ≠ j) : upd v j u k = v k := by
  have : Nat.beq k j = false := by cases e : Nat.beq k j; rfl; exact absurd (Nat.eq_of_beq_eq_true e) h
  simp [upd, this]

/-- all of the first n are done, none behind them -/
def headDone (n m : Nat) : Array Bool := (List.range m).toArray.map fun j => decide (j < n)
def relB (l : List Oper) (n : Nat) : Bool :=
  decide (n < l.length) && Region.sinkB .any l.toArray n && Region.chainB .any l.toArray n && Region.seqB .any l.toArray (l.length - n) n (headDone n l.length) &&
  (List.range l.length).all fun j => match l[j]? with
    | some o => o.after.all fun e => !Region.binds .any e || decide (e.on < j)
    | none => true

section
variable {P : Program} {Q : Exit → Act → World → Prop} {l : List Oper} {n : Nat} {C : Array Bool → World → Prop} {fr : (Nat → Value) → Act} {R : Nat → World → Value → Prop} {Z : Nat → Nat → Value → Value → Prop}

structure RelI (l : List Oper) (n : Nat) (C : Array Bool → World → Prop) (fr : (Nat → Value) → Act) (R : Nat → World → Value → Prop) (Z : Nat → Nat → Value → Value → Prop) (s : Array Bool) (a : Act) (w : World) : Prop where
  inv : HeadInv .any l.toArray n s
  cls : C s w
  ex : ∃ v, a = fr v ∧ (∀ j, j < n → s.getD j false = true → R j w (v j)) ∧ ∀ j k, j < n → k < n → j ≠ k → s.getD j false = true → s.getD k false = true → Z j k (v j) (v k)

/-- what one operation must do -/
def RelStep (P : Program) (Q : Exit → Act → World → Prop) (l : List Oper) (n : Nat) (C : Array Bool → World → Prop) (fr : (Nat → Value) → Act) (R : Nat → World → Value → Prop) (Z : Nat → Nat → Value → Value → Prop) (j : Nat) (o : Oper) : Prop :=
  ∀ s v w, C s w → HeadInv .any l.toArray n s → s.getD j true = false → (∀ e ∈ o.after, Region.binds .any e = true → R e.on w (v e.on)) → (∀ e ∈ o.after, ∀ e' ∈ o.after, Region.binds .any e = true → Region.binds .any e' = true → e.on ≠ e'.on → Z e.on e'.on (v e.on) (v e'.on)) →
    wpOp P l.toArray Q j (fun a' w' => ∃ u, a' = fr (upd v j u) ∧ C (s.setIfInBounds j true) w' ∧ (∀ k x, k ≠ j → s.getD k false = true → R k w x → R k w' x) ∧ R j w' u ∧ ∀ k, k ≠ j → s.getD k false = true → R k w (v k) → Z j k u (v k) ∧ Z k j (v k) u) (fr v) w

theorem any_rel (hlt : n < l.length) (hs : Region.sinkB .any l.toArray n = true) (hc : Region.chainB .any l.toArray n = true) (hq : Region.seqB .any l.toArray (l.length - n) n (headDone n l.length) = true)
    (hd : ∀ (j : Nat) (o : Oper), l[j]? = some o → ∀ e ∈ o.after, Region.binds .any e = true → e.on < j) (hstep : ∀ (j : Nat) (o : Oper), j < n → l[j]? = some o → RelStep P Q l n C fr R Z j o)
    (hend : ∀ s v w, C s w → (∀ j, j < n → R j w (v j)) → (∀ j k, j < n → k < n → j ≠ k → Z j k (v j) (v k)) → wpList P l.toArray Q (l.drop n) (fr v) w) :
    ∀ (f : Nat) (s : Array Bool) (a : Act) (w : World) (und : List Nat), und.length = f → und.Nodup → (∀ j, j ∈ und ↔ j < n ∧ s.getD j false = false) → RelI l n C fr R Z s a w → wpAny P .any l.toArray Q (l.length - n + f) s a w := by
  intro f
  have hsz : l.toArray.size = l.length := by simp
  induction f with
  | zero =>
    intro s a w und hl _ hm h
    have hnil : und = [] := List.length_eq_zero_iff.1 hl
    subst hnil
    have hall : ∀ j, j < n → s.getD j false = true := fun j hj => by
      cases e : s.getD j false
      · exact absurd ((hm j).2 ⟨hj, e⟩) (by simp)
      · rfl
    have hse : s = headDone n l.length := by
      apply Array.ext
      · rw [h.inv.size]; simp [headDone]
      · intro i h1 h2
        have hil : i < l.length := by simpa [headDone] using h2
        have e2 : (headDone n l.length)[i] = decide (i < n) := by simp [headDone]
        rw [e2]
        by_cases hi : i < n
        · have := hall i hi
          simp [h1] at this
          simp [this, hi]
        · have := h.inv.tail i (by omega) (by rw [hsz]; exact hil)
          simp [h1] at this
          simp [this, hi]
    obtain ⟨v, rfl, hR, hZ⟩ := h.ex
    have h1 := wpAny_of_seq (P := P) (md := .any) (Q' := Q) (l.drop n) n s (fr v) w (fun j => by rw [List.getElem?_drop, List.getElem?_toArray]) (by rw [List.length_drop, hse]; exact hq)
      (hend s v w h.cls (fun j hj => hR j hj (hall j hj)) (fun j k hj hk hne => hZ j k hj hk hne (hall j hj) (hall k hk)))
    rwa [List.length_drop] at h1
  | succ f ih =>
    intro s a w und hl hnd hm h
    have hex : ∃ i, i ∈ und := by
      cases und with
      | nil => cases hl
      | cons x xs => exact ⟨x, by simp⟩
    have hun : ∀ i, i ∈ und → s.getD i true = false := fun i hi => by
      obtain ⟨h1, h2⟩ := (hm i).1 hi
      exact getD_in (by rw [h.inv.size, hsz]; omega) h2
    refine ⟨fun h0 => ?_, fun i hi => ?_⟩
    · -- the first that isn't done comes up
      exfalso
      have key : ∀ m i, i ≤ m → i ∈ und → False := by
        intro m
        induction m with
        | zero =>
          intro i hi hmem
          obtain rfl : i = 0 := by omega
          have hir : 0 ∈ Region.ready .any l.toArray s := mem_ready.2 ⟨hun 0 hmem, l[0]'(by omega), by rw [List.getElem?_toArray, List.getElem?_eq_getElem], fun e he hb => absurd (hd 0 _ (List.getElem?_eq_getElem (by omega)) e he hb) (Nat.not_lt_zero _)⟩
          rw [h0] at hir; cases hir
        | succ m ihm =>
          intro i hi hmem
          have hil : i < l.length := by have := ((hm i).1 hmem).1; omega
          by_cases hall : ∀ e ∈ (l[i]'hil).after, Region.binds .any e = true → s.getD e.on false = true
          · have hir : i ∈ Region.ready .any l.toArray s := mem_ready.2 ⟨hun i hmem, l[i]'hil, by rw [List.getElem?_toArray, List.getElem?_eq_getElem], hall⟩
            rw [h0] at hir; cases hir
          · simp only [Classical.not_forall] at hall
            obtain ⟨e, he, hb, hf⟩ := hall
            have hlt' := hd i _ (List.getElem?_eq_getElem hil) e he hb
            exact ihm e.on (by omega) ((hm e.on).2 ⟨by have := ((hm i).1 hmem).1; omega, by simpa using hf⟩)
      obtain ⟨i, hi⟩ := hex
      exact key i i (Nat.le_refl _) hi
    · obtain ⟨hu, o, ho, hdep⟩ := mem_ready.1 hi
      obtain ⟨x, hx⟩ := hex
      have hin : i < n := Nat.lt_of_not_le fun hle => tail_waits hs hc (by rw [hsz]; exact hlt) h.inv _ x rfl ((hm x).1 hx).1 (hun x hx) i hle hi
      rw [List.getElem?_toArray] at ho
      obtain ⟨v, rfl, hR, hZ⟩ := h.ex
      have hdn : ∀ e ∈ o.after, Region.binds .any e = true → R e.on w (v e.on) := fun e he hb => hR e.on (by have := hd i o ho e he hb; omega) (hdep e he hb)
      have hdz : ∀ e ∈ o.after, ∀ e' ∈ o.after, Region.binds .any e = true → Region.binds .any e' = true → e.on ≠ e'.on → Z e.on e'.on (v e.on) (v e'.on) := fun e he e' he' hb hb' hne =>
        hZ e.on e'.on (by have := hd i o ho e he hb; omega) (by have := hd i o ho e' he' hb'; omega) hne (hdep e he hb) (hdep e' he' hb')
      refine wpOp_mono ?_ (hstep i o hin ho s v w h.cls h.inv hu hdn hdz)
      rintro a' w' ⟨u, rfl, hC', hst, hRu, hZu⟩
      refine ih _ _ _ (und.erase i) ?_ (hnd.erase _) ?_ ⟨h.inv.set hi hin, hC', upd v i u, rfl, ?_, ?_⟩
      · rw [List.length_erase_of_mem ((hm i).2 ⟨hin, getD_both hu⟩), hl]; rfl
      · intro j
        rw [hnd.mem_erase_iff, hm j]
        by_cases hji : j = i
        · subst hji
          constructor
          · rintro ⟨h1, _⟩; exact absurd rfl h1
          · rintro ⟨_, h2⟩
            have hsi : j < s.size := by rw [h.inv.size, hsz]; omega
            simp [hsi] at h2
        · rw [getD_set_ne false (Ne.symm hji)]
          exact ⟨fun h1 => h1.2, fun h1 => ⟨hji, h1⟩⟩
      · intro j hj hsj
        by_cases hji : j = i
        · subst hji; rw [upd_self]; exact hRu
        · rw [getD_set_ne false (Ne.symm hji)] at hsj
          rw [upd_ne v i j u hji]; exact hst _ _ hji hsj (hR j hj hsj)
      · intro j k hj hk hne hsj hsk
        by_cases hji : j = i
        · subst hji
          rw [getD_set_ne false hne] at hsk
          rw [upd_self, upd_ne v j k u (Ne.symm hne)]
          exact (hZu k (Ne.symm hne) hsk (hR k hk hsk)).1
        · rw [getD_set_ne false (Ne.symm hji)] at hsj
          by_cases hki : k = i
          · subst hki
            rw [upd_self, upd_ne v k j u hji]
            exact (hZu j hji hsj (hR j hj hsj)).2
          · rw [getD_set_ne false (Ne.symm hki)] at hsk
            rw [upd_ne v i j u hji, upd_ne v i k u hki]
            exact hZ j k hj hk hne hsj hsk

theorem wp_region_rel {id : Nat} {a : Act} {w : World} (n : Nat) (C : Array Bool → World → Prop) (fr : (Nat → Value) → Act) (R : Nat → World → Value → Prop) (Z : Nat → Nat → Value → Value → Prop) (hm : P.follows .mixedOrders = true) (hB : relB l n = true)
    (hC : C (Array.replicate l.toArray.size false) { w with drawn := w.drawn + 1 }) (ha : ∃ v, a = fr v) (hstep : ∀ (j : Nat) (o : Oper), j < n → l[j]? = some o → RelStep P Q l n C fr R Z j o)
    (hend : ∀ s v w, C s w → (∀ j, j < n → R j w (v j)) → (∀ j k, j < n → k < n → j ≠ k → Z j k (v j) (v k)) → wpList P l.toArray Q (l.drop n) (fr v) w) : (Code.region id l.toArray true).wp P Q a w := by
  unfold relB at hB
  simp only [Bool.and_eq_true, decide_eq_true_eq] at hB
  obtain ⟨⟨⟨⟨h1, h2⟩, h3⟩, h4⟩, h5⟩ := hB
  obtain ⟨v, rfl⟩ := ha
  have hd : ∀ (j : Nat) (o : Oper), l[j]? = some o → ∀ e ∈ o.after, Region.binds .any e = true → e.on < j := fun j o ho e he hb => by
    have := List.all_eq_true.1 h5 j (List.mem_range.2 (List.getElem?_eq_some_iff.1 ho).1)
    rw [ho] at this
    have := Array.all_eq_true_iff_forall_mem.1 this e he
    rw [hb] at this
    exact of_decide_eq_true this
  have := any_rel h1 h2 h3 h4 hd hstep hend n (Array.replicate l.toArray.size false) (fr v) _ (List.range n) (by simp) List.nodup_range
    (fun j => by rw [List.mem_range, getD_replicate_false]; simp) ⟨start_inv .any l.toArray n, hC, v, rfl, (fun j _ h => by rw [getD_replicate_false] at h; cases h), (fun j k _ _ _ h => by rw [getD_replicate_false] at h; cases h)⟩
  rw [Nat.sub_add_cancel (Nat.le_of_lt h1)] at this
  exact wp_region_any hm (by simpa using this)

/-- an operation that is walked alone -/
theorem relStep_of {j : Nat} {o : Oper} (ho : l[j]? = some o) (hw : o.guard = none)
    (h : ∀ s v w, C s w → HeadInv .any l.toArray n s → s.getD j true = false → (∀ e ∈ o.after, Region.binds .any e = true → R e.on w (v e.on)) → (∀ e ∈ o.after, ∀ e' ∈ o.after, Region.binds .any e = true → Region.binds .any e' = true → e.on ≠ e'.on → Z e.on e'.on (v e.on) (v e'.on)) → o.wp P (fr v) w (fun a' w' => ∃ u, a' = fr (upd v j u) ∧ C (s.setIfInBounds j true) w' ∧ (∀ k x, k ≠ j → s.getD k false = true → R k w x → R k w' x) ∧ R j w' u ∧ ∀ k, k ≠ j → s.getD k false = true → R k w (v k) → Z j k u (v k) ∧ Z k j (v k) u) Q) : RelStep P Q l n C fr R Z j o := by
  intro s v w hC hi hs hR hZ
  have hw' : ∀ y, Region.wanted o y = true := fun y => by simp [Region.wanted, hw]
  unfold wpOp
  rw [List.getElem?_toArray, ho]
  simp only [hw', if_true]
  exact .inl (h s v w hC hi hs hR hZ)

theorem wp_val {P : Program} {o : Oper} {a : Act} {w : World} {K : Act → World → Prop} {Q : Exit → Act → World → Prop} (u : Value) (h : (execOp a.eval o).run P w = .ok (.value u) w) (hk : K (a.put o.dst u) w) : o.wp P a w K Q := by
  unfold Oper.wp
  rw [h]
  exact hk
theorem wp_valW {P : Program} {o : Oper} {a : Act} {w : World} {K : Act → World → Prop} {Q : Exit → Act → World → Prop} (u : Value) (w' : World) (h : (execOp a.eval o).run P w = .ok (.value u) w') (hk : K (a.put o.dst u) w') : o.wp P a w K Q := by
  unfold Oper.wp
  rw [h]
  exact hk
theorem wp_enter {P : Program} {o : Oper} {a : Act} {w : World} {K : Act → World → Prop} {Q : Exit → Act → World → Prop} (f : FuncId) (args : Array Value) (h : (execOp a.eval o).run P w = .ok (.enter f args) w)
    (hc : Calls P f args w fun e w' => ∃ u, e = .returned u ∧ K (a.put o.dst u) w') : o.wp P a w K Q := by
  unfold Oper.wp
  rw [h, Oper.upon_enter]
  refine hc.mono ?_
  rintro e w' ⟨u, rfl, hk⟩
  exact hk

end
end Go.Proofs.YthiknlnhdjoipaaGreatDoor
