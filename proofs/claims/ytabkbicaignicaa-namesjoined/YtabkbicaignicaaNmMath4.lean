/-
  Which definition counts in two parts, case by case; where one that counts stands.
-/
import Derived.Test.YtabkbicaignicaaNmMath2
namespace Go.Proofs.Ytabkbicaignicaa.M
open Go

/-- the ways in which three that were found hang together -/
def Ways (n : Int) (x y z : Dfn × Int) : Prop :=
  (x.2 = 6 ∧ z.2 = 6) ∨
  (¬ x.2 = 6 ∧ y.2 = 6 ∧ z.2 = 6) ∨
  (x.2 = 0 ∧ y.2 = 0 ∧ x.1.kind = 1 ∧ y.1.kind = 1 ∧ z.2 = 6) ∨
  (x.2 = 7 ∧ y.2 = 7 ∧ z.2 = 7) ∨
  (x.2 = 7 ∧ y.2 = 0 ∧ z = (movedY n y.1, 0)) ∨
  (x.2 = 0 ∧ y.2 = 7 ∧ z = (x.1, 0)) ∨
  (x.2 = 0 ∧ y.2 = 0 ∧ ¬ x.1.kind = 1 ∧ y.1.kind = 1 ∧ z = (movedY n y.1, 0)) ∨
  (x.2 = 0 ∧ y.2 = 0 ∧ x.1.kind = 2 ∧ y.1.kind = 3 ∧ z = (movedY n y.1, 0)) ∨
  (x.2 = 0 ∧ y.2 = 0 ∧ x.1.kind = 3 ∧ y.1.kind = 3 ∧ z.2 = 0 ∧ z.1.kind = 3 ∧ z.1.size = max x.1.size y.1.size ∧ z.1.align = max x.1.align y.1.align) ∨
  (x.2 = 0 ∧ y.2 = 0 ∧ ((x.1.kind = 1 ∧ y.1.kind = 2) ∨ (x.1.kind = 1 ∧ y.1.kind = 3) ∨ (x.1.kind = 2 ∧ y.1.kind = 2) ∨ (x.1.kind = 3 ∧ y.1.kind = 2)) ∧ z = (x.1, 0))
theorem Ways.twiceL {n : Int} {x y z : Dfn × Int} (h1 : x.2 = 6) (h2 : z.2 = 6) : Ways n x y z := .inl ⟨h1, h2⟩
theorem Ways.twiceR {n : Int} {x y z : Dfn × Int} (h0 : ¬ x.2 = 6) (h1 : y.2 = 6) (h2 : z.2 = 6) : Ways n x y z := .inr (.inl ⟨h0, h1, h2⟩)
theorem Ways.both {n : Int} {x y z : Dfn × Int} (h1 : x.2 = 0) (h2 : y.2 = 0) (h3 : x.1.kind = 1) (h4 : y.1.kind = 1) (h5 : z.2 = 6) : Ways n x y z := .inr (.inr (.inl ⟨h1, h2, h3, h4, h5⟩))
theorem Ways.none {n : Int} {x y z : Dfn × Int} (h1 : x.2 = 7) (h2 : y.2 = 7) (h3 : z.2 = 7) : Ways n x y z := .inr (.inr (.inr (.inl ⟨h1, h2, h3⟩)))
theorem Ways.right {n : Int} {x y z : Dfn × Int} (h1 : x.2 = 7) (h2 : y.2 = 0) (h3 : z = (movedY n y.1, 0)) : Ways n x y z := .inr (.inr (.inr (.inr (.inl ⟨h1, h2, h3⟩))))
theorem Ways.left {n : Int} {x y z : Dfn × Int} (h1 : x.2 = 0) (h2 : y.2 = 7) (h3 : z = (x.1, 0)) : Ways n x y z := .inr (.inr (.inr (.inr (.inr (.inl ⟨h1, h2, h3⟩)))))
theorem Ways.strong {n : Int} {x y z : Dfn × Int} (h1 : x.2 = 0) (h2 : y.2 = 0) (h3 : ¬ x.1.kind = 1) (h4 : y.1.kind = 1) (h5 : z = (movedY n y.1, 0)) : Ways n x y z := .inr (.inr (.inr (.inr (.inr (.inr (.inl ⟨h1, h2, h3, h4, h5⟩))))))
theorem Ways.weak {n : Int} {x y z : Dfn × Int} (h1 : x.2 = 0) (h2 : y.2 = 0) (h3 : x.1.kind = 2) (h4 : y.1.kind = 3) (h5 : z = (movedY n y.1, 0)) : Ways n x y z := .inr (.inr (.inr (.inr (.inr (.inr (.inr (.inl ⟨h1, h2, h3, h4, h5⟩)))))))
theorem Ways.common {n : Int} {x y z : Dfn × Int} (h1 : x.2 = 0) (h2 : y.2 = 0) (h3 : x.1.kind = 3) (h4 : y.1.kind = 3) (h5 : z.2 = 0) (h6 : z.1.kind = 3) (h7 : z.1.size = max x.1.size y.1.size) (h8 : z.1.align = max x.1.align y.1.align) : Ways n x y z := .inr (.inr (.inr (.inr (.inr (.inr (.inr (.inr (.inl ⟨h1, h2, h3, h4, h5, h6, h7, h8⟩))))))))
theorem Ways.first {n : Int} {x y z : Dfn × Int} (h1 : x.2 = 0) (h2 : y.2 = 0) (h3 : (x.1.kind = 1 ∧ y.1.kind = 2) ∨ (x.1.kind = 1 ∧ y.1.kind = 3) ∨ (x.1.kind = 2 ∧ y.1.kind = 2) ∨ (x.1.kind = 3 ∧ y.1.kind = 2)) (h4 : z = (x.1, 0)) : Ways n x y z := .inr (.inr (.inr (.inr (.inr (.inr (.inr (.inr (.inr ⟨h1, h2, h3, h4⟩))))))))

theorem ways_in (n : Int) (A1 A3 A2 C1 C3 C2 : List Dfn) (a1 : ∀ d ∈ A1, d.kind = 1) (a3 : ∀ d ∈ A3, d.kind = 3) (a2 : ∀ d ∈ A2, d.kind = 2) (c1 : ∀ d ∈ C1, d.kind = 1) (c3 : ∀ d ∈ C3, d.kind = 3) (c2 : ∀ d ∈ C2, d.kind = 2) :
    Ways n (findIn A1 A3 A2) (findIn C1 C3 C2) (findIn (A1 ++ C1.map (shiftDfn n)) (A3 ++ C3) (A2 ++ C2.map (shiftDfn n))) := by
  have g3 : ∀ (d : Dfn) (l : List Dfn), (∀ x ∈ d :: l, x.kind = 3) → (greatest (d :: l)).kind = 3 := fun d l h => by
    unfold greatest; rw [(fold_kind _ _).1]; exact h d (by simp)
  match A1, C1 with
  | _ :: _ :: _, _ => exact .twiceL (by simp [findIn]) (by simp [findIn])
  | [x], _ :: _ :: _ => exact .twiceR (by simp [findIn]) (by simp [findIn]) (by simp [findIn])
  | [], _ :: _ :: _ =>
    refine .twiceR ?_ (by simp [findIn]) (by simp [findIn])
    match A3, A2 with
    | _ :: _, _ => simp [findIn]
    | [], _ :: _ => simp [findIn]
    | [], [] => simp [findIn]
  | [x], [y] =>
    have := a1 x (by simp)
    have := c1 y (by simp)
    exact .both (by simp [findIn]) (by simp [findIn]) (by simpa [findIn]) (by simpa [findIn]) (by simp [findIn])
  | [x], [] =>
    have hx := a1 x (by simp)
    match C3, C2 with
    | c :: m, _ =>
      have := g3 c m c3
      exact .first (by simp [findIn]) (by simp [findIn]) (.inr (.inl ⟨by simpa [findIn], by simpa [findIn]⟩)) (by simp [findIn])
    | [], c :: m =>
      have := c2 c (by simp)
      exact .first (by simp [findIn]) (by simp [findIn]) (.inl ⟨by simpa [findIn], by simpa [findIn]⟩) (by simp [findIn])
    | [], [] => exact .left (by simp [findIn]) (by simp [findIn]) (by simp [findIn])
  | [], [y] =>
    have hy := c1 y (by simp)
    have hm := shift_moved n (.inl hy)
    match A3, A2 with
    | c :: m, _ =>
      have := g3 c m a3
      exact .strong (by simp [findIn]) (by simp [findIn]) (by simp [findIn, this]) (by simpa [findIn]) (by simp [findIn, hm])
    | [], c :: m =>
      have := a2 c (by simp)
      exact .strong (by simp [findIn]) (by simp [findIn]) (by simp [findIn, this]) (by simpa [findIn]) (by simp [findIn, hm])
    | [], [] => exact .right (by simp [findIn]) (by simp [findIn]) (by simp [findIn, hm])
  | [], [] =>
    match A3, C3 with
    | a :: l, c :: m =>
      have ha := g3 a l a3
      have hc := g3 c m c3
      have hx := greatest_app a c l m
      have h3 := a3 a (by simp)
      rw [List.cons_append] at hx
      exact .common (by simp [findIn]) (by simp [findIn]) (by simpa [findIn]) (by simpa [findIn]) (by simp [findIn]) (by simp [findIn, hx, h3]) (by simp [findIn, hx]) (by simp [findIn, hx])
    | a :: l, [] =>
      have ha := g3 a l a3
      match C2 with
      | [] => exact .left (by simp [findIn]) (by simp [findIn]) (by simp [findIn])
      | c :: m =>
        have := c2 c (by simp)
        exact .first (by simp [findIn]) (by simp [findIn]) (.inr (.inr (.inr ⟨by simpa [findIn], by simpa [findIn]⟩))) (by simp [findIn])
    | [], c :: m =>
      have hc := g3 c m c3
      have hm : movedY n (greatest (c :: m)) = greatest (c :: m) := by unfold movedY; rw [hc]; rfl
      match A2 with
      | [] => exact .right (by simp [findIn]) (by simp [findIn]) (by simp [findIn, hm])
      | a :: l =>
        have := a2 a (by simp)
        exact .weak (by simp [findIn]) (by simp [findIn]) (by simpa [findIn]) (by simpa [findIn]) (by simp [findIn, hm])
    | [], [] =>
      match A2, C2 with
      | [], [] => exact .none (by simp [findIn]) (by simp [findIn]) (by simp [findIn])
      | [], c :: m =>
        have hc := c2 c (by simp)
        exact .right (by simp [findIn]) (by simp [findIn]) (by simp [findIn, shift_moved n (.inr hc)])
      | a :: l, [] =>
        exact .left (by simp [findIn]) (by simp [findIn]) (by simp [findIn])
      | a :: l, c :: m =>
        have := a2 a (by simp)
        have := c2 c (by simp)
        exact .first (by simp [findIn]) (by simp [findIn]) (.inr (.inr (.inl ⟨by simpa [findIn], by simpa [findIn]⟩))) (by simp [findIn])

theorem ways (a b : Prt) (l : List ByteArray) (s : ByteArray) (hb : Ok b) : Ways a.frags.length (find a.defs s) (find (drop b l).defs s) (find (put a l b).defs s) := by
  rw [put_defs a b l hb]
  unfold find
  rw [ofKind_app, ofKind_app, ofKind_app, shift_three _ (ofKind _ s 3) (fun d hd => ofKind_kind hd)]
  exact ways_in _ _ _ _ _ _ _ (fun d hd => ofKind_kind hd) (fun d hd => ofKind_kind hd) (fun d hd => ofKind_kind hd) (fun d hd => ofKind_kind hd) (fun d hd => ofKind_kind hd) (fun d hd => ofKind_kind hd)

theorem head_mem (l : List Dfn) (h : 0 < l.length) : l.headD dfnZ ∈ l := by
  cases l with
  | nil => simp at h
  | cons x l => simp

/-- what counts as strong or weak stands in a fragment -/
theorem find_frag {p : Prt} (h : Ok p) (s : ByteArray) (hk : (find p.defs s).1.kind = 1 ∨ (find p.defs s).1.kind = 2) : 0 ≤ (find p.defs s).1.frag ∧ (find p.defs s).1.frag < 60 := by
  have key : ∀ d ∈ p.defs, d.kind = 1 ∨ d.kind = 2 → 0 ≤ d.frag ∧ d.frag < 60 := fun d hd hk => by
    obtain ⟨f, h1, h2, _⟩ := h.stands d hd (by rw [beq_eq_false_iff_ne]; omega)
    have := (List.getElem?_eq_some_iff.1 h2).1
    have := h.nf
    omega
  unfold find findIn at hk ⊢
  split
  · rename_i h1; rw [if_pos h1] at hk; rcases hk with hk | hk <;> simp [dfnZ] at hk
  · rename_i h1
    rw [if_neg h1] at hk
    split
    · rename_i h2
      rw [if_pos h2] at hk
      exact key _ (List.mem_filter.1 (head_mem (ofKind p.defs s 1) (by omega))).1 hk
    · rename_i h2
      rw [if_neg h2] at hk
      split
      · rename_i h3
        rw [if_pos h3] at hk
        have : (greatest (ofKind p.defs s 3)).kind = 3 := by
          unfold greatest
          rw [(fold_kind _ _).1]
          exact ofKind_kind (head_mem _ h3)
        rw [this] at hk
        omega
      · rename_i h3
        rw [if_neg h3] at hk
        split
        · rename_i h4
          rw [if_pos h4] at hk
          exact key _ (List.mem_filter.1 (head_mem _ h4)).1 hk
        · rename_i h4
          rw [if_neg h4] at hk
          rcases hk with hk | hk <;> simp [dfnZ] at hk

end Go.Proofs.Ytabkbicaignicaa.M
