/-
  Which definition counts in two parts, case by case; where one that counts stands. The plain mathematics of package layout: where sections, fragments and common names stand. Lists and integers alone; nothing of the program. The plain mathematics of layout.Lay: sections, one after another; what is laid out.
-/
import Derived.Test.YtcdpboocfkaifaaGreatDoorMathA

namespace Go.Proofs.YtcdpboocfkaifaaGreatDoor.M
open Go

/-- the ways in which three that were found hang together -/
def Ways (n : Int) (x y z : Dfn × Int) : Prop :=
  (x.2 = 6 ∧ z.2 = 6) ∨
  (¬ x.2 = 6 ∧ y.2 = 6 ∧ z.2 = 6) ∨
  (x.2 = 0 ∧ y.2 = 0 ∧ x.1.kind = 1 ∧ y.1.kind = 1 ∧ z.2 = 6) ∨
  (x.2 = 7 ∧ y.2 = 7 ∧ z.2 = 7) ∨
  (x.2 = 7 ∧ y.2 = 0 ∧ z = (movedY n y.1, 0)) ∨
  (x.2 = 0 ∧ y.2 = 7 ∧ z = (x.1, 0)) ∨
  (x.2 = 0 ∧ y.2 = 0 ∧ ¬ x.1.kind = 1 ∧ y.1.kind = 1 ∧ z = (movedY n y.1, 0)) ∨
  (x.2 = 0 ∧ y.2 = 0 ∧ x.1.kind = 2 ∧ y.1.kind = 3 ∧ z = (movedY n y.1, 0)) ∨
  (x.2 = 0 ∧ y.2 = 0 ∧ x.1.kind = 3 ∧ y.1.kind = 3 ∧ z.2 = 0 ∧ z.1.kind = 3 ∧ z.1.size = max x.1.size y.1.size ∧ z.1.align = max x.1.align y.1.align) ∨
  (x.2 = 0 ∧ y.2 = 0 ∧ ((x.1.kind = 1 ∧ y.1.kind = 2) ∨ (x.1.kind = 1 ∧ y.1.kind = 3) ∨ (x.1.kind = 2 ∧ y.1.kind = 2) ∨ (x.1.kind = 3 ∧ y.1.kind = 2)) ∧ z = (x.1, 0))
theorem Ways.twiceL {n : Int} {x y z : Dfn × Int} (h1 : x.2 = 6) (h2 : z.2 = 6) : Ways n x y z := .inl ⟨h1, h2⟩
theorem Ways.twiceR {n : Int} {x y z : Dfn × Int} (h0 : ¬ x.2 = 6) (h1 : y.2 = 6) (h2 : z.2 = 6) : Ways n x y z := .inr (.inl ⟨h0, h1, h2⟩)
theorem Ways.both {n : Int} {x y z : Dfn × Int} (h1 : x.2 = 0) (h2 : y.2 = 0) (h3 : x.1.kind = 1) (h4 : y.1.kind = 1) (h5 : z.2 = 6) : Ways n x y z := .inr (.inr (.inl ⟨h1, h2, h3, h4, h5⟩))
theorem Ways.none {n : Int} {x y z : Dfn × Int} (h1 : x.2 = 7) (h2 : y.2 = 7) (h3 : z.2 = 7) : Ways n x y z := .inr (.inr (.inr (.inl ⟨h1, h2, h3⟩)))
theorem Ways.right {n : Int} {x y z : Dfn × Int} (h1 : x.2 = 7) (h2 : y.2 = 0) (h3 : z = (movedY n y.1, 0)) : Ways n x y z := .inr (.inr (.inr (.inr (.inl ⟨h1, h2, h3⟩))))
theorem Ways.left {n : Int} {x y z : Dfn × Int} (h1 : x.2 = 0) (h2 : y.2 = 7) (h3 : z = (x.1, 0)) : Ways n x y z := .inr (.inr (.inr (.inr (.inr (.inl ⟨h1, h2, h3⟩)))))
theorem Ways.strong {n : Int} {x y z : Dfn × Int} (h1 : x.2 = 0) (h2 : y.2 = 0) (h3 : ¬ x.1.kind = 1) (h4 : y.1.kind = 1) (h5 : z = (movedY n y.1, 0)) : Ways n x y z := .inr (.inr (.inr (.inr (.inr (.inr (.inl ⟨h1, h2, h3, h4, h5⟩))))))
theorem Ways.weak {n : Int} {x y z : Dfn × Int} (h1 : x.2 = 0) (h2 : y.2 = 0) (h3 : x.1.kind = 2) (h4 : y.1.kind = 3) (h5 : z = (movedY n y.1, 0)) : Ways n x y z := .inr (.inr (.inr (.inr (.inr (.inr (.inr (.inl ⟨h1, h2, h3, h4, h5⟩)))))))
theorem Ways.common {n : Int} {x y z : Dfn × Int} (h1 : x.2 = 0) (h2 : y.2 = 0) (h3 : x.1.kind = 3) (h4 : y.1.kind = 3) (h5 : z.2 = 0) (h6 : z.1.kind = 3) (h7 : z.1.size = max x.1.size y.1.size) (h8 : z.1.align = max x.1.align y.1.align) : Ways n x y z := .inr (.inr (.inr (.inr (.inr (.inr (.inr (.inr (.inl ⟨h1, h2, h3, h4, h5, h6, h7, h8⟩))))))))
theorem Ways.first {n : Int} {x y z : Dfn × Int} (h1 : x.2 = 0) (h2 : y.2 = 0) (h3 : (x.1.kind = 1 ∧ y.1.kind = 2) ∨ (x.1.kind = 1 ∧ y.1.kind = 3) ∨ (x.1.kind = 2 ∧ y.1.kind = 2) ∨ (x.1.kind = 3 ∧ y.1.kind = 2)) (h4 : z = (x.1, 0)) : Ways n x y z := .inr (.inr (.inr (.inr (.inr (.inr (.inr (.inr (.inr ⟨h1, h2, h3, h4⟩))))))))

theorem ways_in (n : Int) (A1 A3 A2 C1 C3 C2 : List Dfn) (a1 : ∀ d ∈ A1, d.kind = 1) (a3 : ∀ d ∈ A3, d.kind = 3) (a2 : ∀ d ∈ A2, d.kind = 2) (c1 : ∀ d ∈ C1, d.kind = 1) (c3 : ∀ d ∈ C3, d.kind = 3) (c2 : ∀ d ∈ C2, d.kind = 2) :
    Ways n (findIn A1 A3 A2) (findIn C1 C3 C2) (findIn (A1 ++ C1.map (shiftDfn n)) (A3 ++ C3) (A2 ++ C2.map (shiftDfn n))) := by
  have g3 : ∀ (d : Dfn) (l : List Dfn), (∀ x ∈ d :: l, x.kind = 3) → (greatest (d :: l)).kind = 3 := fun d l h => by
    unfold greatest; rw [(fold_kind _ _).1]; exact h d (by simp)
  match A1, C1 with
  | _ :: _ :: _, _ => exact .twiceL (by simp [findIn]) (by simp [findIn])
  | [x], _ :: _ :: _ => exact .twiceR (by simp [findIn]) (by simp [findIn]) (by simp [findIn])
  | [], _ :: _ :: _ =>
    refine .twiceR ?_ (by simp [findIn]) (by simp [findIn])
    match A3, A2 with
    | _ :: _, _ => simp [findIn]
    | [], _ :: _ => simp [findIn]
    | [], [] => simp [findIn]
  | [x], [y] =>
    have := a1 x (by simp)
    have := c1 y (by simp)
    exact .both (by simp [findIn]) (by simp [findIn]) (by simpa [findIn]) (by simpa [findIn]) (by simp [findIn])
  | [x], [] =>
    have hx := a1 x (by simp)
    match C3, C2 with
    | c :: m, _ =>
      have := g3 c m c3
      exact .first (by simp [findIn]) (by simp [findIn]) (.inr (.inl ⟨by simpa [findIn], by simpa [findIn]⟩)) (by simp [findIn])
    | [], c :: m =>
      have := c2 c (by simp)
      exact .first (by simp [findIn]) (by simp [findIn]) (.inl ⟨by simpa [findIn], by simpa [findIn]⟩) (by simp [findIn])
    | [], [] => exact .left (by simp [findIn]) (by simp [findIn]) (by simp [findIn])
  | [], [y] =>
    have hy := c1 y (by simp)
    have hm := shift_moved n (.inl hy)
    match A3, A2 with
    | c :: m, _ =>
      have := g3 c m a3
      exact .strong (by simp [findIn]) (by simp [findIn]) (by simp [findIn, this]) (by simpa [findIn]) (by simp [findIn, hm])
    | [], c :: m =>
      have := a2 c (by simp)
      exact .strong (by simp [findIn]) (by simp [findIn]) (by simp [findIn, this]) (by simpa [findIn]) (by simp [findIn, hm])
    | [], [] => exact .right (by simp [findIn]) (by simp [findIn]) (by simp [findIn, hm])
  | [], [] =>
    match A3, C3 with
    | a :: l, c :: m =>
      have ha := g3 a l a3
      have hc := g3 c m c3
      have hx := greatest_app a c l m
      have h3 := a3 a (by simp)
      rw [List.cons_append] at hx
      exact .common (by simp [findIn]) (by simp [findIn]) (by simpa [findIn]) (by simpa [findIn]) (by simp [findIn]) (by simp [findIn, hx, h3]) (by simp [findIn, hx]) (by simp [findIn, hx])
    | a :: l, [] =>
      have ha := g3 a l a3
      match C2 with
      | [] => exact .left (by simp [findIn]) (by simp [findIn]) (by simp [findIn])
      | c :: m =>
        have := c2 c (by simp)
        exact .first (by simp [findIn]) (by simp [findIn]) (.inr (.inr (.inr ⟨by simpa [findIn], by simpa [findIn]⟩))) (by simp [findIn])
    | [], c :: m =>
      have hc := g3 c m c3
      have hm : movedY n (greatest (c :: m)) = greatest (c :: m) := by unfold movedY; rw [hc]; rfl
      match A2 with
      | [] => exact .right (by simp [findIn]) (by simp [findIn]) (by simp [findIn, hm])
      | a :: l =>
        have := a2 a (by simp)
        exact .weak (by simp [findIn]) (by simp [findIn]) (by simpa [findIn]) (by simpa [findIn]) (by simp [findIn, hm])
    | [], [] =>
      match A2, C2 with
      | [], [] => exact .none (by simp [findIn]) (by simp [findIn]) (by simp [findIn])
      | [], c :: m =>
        have hc := c2 c (by simp)
        exact .right (by simp [findIn]) (by simp [findIn]) (by simp [findIn, shift_moved n (.inr hc)])
      | a :: l, [] =>
        exact .left (by simp [findIn]) (by simp [findIn]) (by simp [findIn])
      | a :: l, c :: m =>
        have := a2 a (by simp)
        have := c2 c (by simp)
        exact .first (by simp [findIn]) (by simp [findIn]) (.inr (.inr (.inl ⟨by simpa [findIn], by simpa [findIn]⟩))) (by simp [findIn])

theorem ways (a b : Prt) (l : List ByteArray) (s : ByteArray) (hb : Ok b) : Ways a.frags.length (find a.defs s) (find (drop b l).defs s) (find (put a l b).defs s) := by
  rw [put_defs a b l hb]
  unfold find
  rw [ofKind_app, ofKind_app, ofKind_app, shift_three _ (ofKind _ s 3) (fun d hd => ofKind_kind hd)]
  exact ways_in _ _ _ _ _ _ _ (fun d hd => ofKind_kind hd) (fun d hd => ofKind_kind hd) (fun d hd => ofKind_kind hd) (fun d hd => ofKind_kind hd) (fun d hd => ofKind_kind hd) (fun d hd => ofKind_kind hd)

theorem head_mem (l : List Dfn) (h : 0 < l.length) : l.headD dfnZ ∈ l := by
  cases l with
  | nil => simp at h
  | cons x l => simp

/-- what counts as strong or weak stands in a fragment -/
theorem find_frag {p : Prt} (h : Ok p) (s : ByteArray) (hk : (find p.defs s).1.kind = 1 ∨ (find p.defs s).1.kind = 2) : 0 ≤ (find p.defs s).1.frag ∧ (find p.defs s).1.frag < 60 := by
  have key : ∀ d ∈ p.defs, d.kind = 1 ∨ d.kind = 2 → 0 ≤ d.frag ∧ d.frag < 60 := fun d hd hk => by
    obtain ⟨f, h1, h2, _⟩ := h.stands d hd (by rw [beq_eq_false_iff_ne]; omega)
    have := (List.getElem?_eq_some_iff.1 h2).1
    have := h.nf
    omega
  unfold find findIn at hk ⊢
  split
  · rename_i h1; rw [if_pos h1] at hk; rcases hk with hk | hk <;> simp [dfnZ] at hk
  · rename_i h1
    rw [if_neg h1] at hk
    split
    · rename_i h2
      rw [if_pos h2] at hk
      exact key _ (List.mem_filter.1 (head_mem (ofKind p.defs s 1) (by omega))).1 hk
    · rename_i h2
      rw [if_neg h2] at hk
      split
      · rename_i h3
        rw [if_pos h3] at hk
        have : (greatest (ofKind p.defs s 3)).kind = 3 := by
          unfold greatest
          rw [(fold_kind _ _).1]
          exact ofKind_kind (head_mem _ h3)
        rw [this] at hk
        omega
      · rename_i h3
        rw [if_neg h3] at hk
        split
        · rename_i h4
          rw [if_pos h4] at hk
          exact key _ (List.mem_filter.1 (head_mem _ h4)).1 hk
        · rename_i h4
          rw [if_neg h4] at hk
          rcases hk with hk | hk <;> simp [dfnZ] at hk

end Go.Proofs.YtcdpboocfkaifaaGreatDoor.M

namespace Go.Proofs.YtcdpboocfkaifaaGreatDoor.M
open Go
set_option linter.unusedVariables false

/-- the first address, from a on, that d divides -/
def next (a d : Int) : Int := (a + d - 1) / d * d

/-- texts that stand: bytes, alignment, where -/
abbrev Seen := List (List Int × Int × Int)
def look : Seen → List Int → Int → Option Int
  | [], _, _ => none
  | (b, a, x) :: r, bs, al => if b = bs ∧ a = al then some x else look r bs al

structure LS where
  adr : List Int
  pos : Int
  seen : Seen

/-- a fragment that stands on its own -/
def layNew (sect : Int) (s : LS) (i : Nat) (f : Frg) : LS :=
  ⟨s.adr.set i (next s.pos f.align), next s.pos f.align + long f, if sect = 3 then (f.bytes, f.align, next s.pos f.align) :: s.seen else s.seen⟩
def layOld (s : LS) (i : Nat) (x : Int) : LS := ⟨s.adr.set i x, s.pos, s.seen⟩
def layStep (sect : Int) (s : LS) (i : Nat) (f : Frg) : LS :=
  if f.sect = sect then (look s.seen f.bytes f.align).elim (layNew sect s i f) (layOld s i) else s

def layGo (sect : Int) : LS → Nat → List Frg → LS
  | s, _, [] => s
  | s, i, f :: fs => layGo sect (layStep sect s i f) (i + 1) fs
def layFrags (sect : Int) (tl : List Int) (fs : List Frg) (pos : Int) : LS := layGo sect ⟨tl, pos, []⟩ 0 fs

theorem layGo_snoc (sect : Int) (f : Frg) : ∀ (l : List Frg) (s : LS) (i : Nat), layGo sect s i (l ++ [f]) = layStep sect (layGo sect s i l) (i + l.length) f
  | [], s, i => rfl
  | g :: l, s, i => by
    show layGo sect (layStep sect s i g) (i + 1) (l ++ [f]) = _
    rw [layGo_snoc sect f l]
    show _ = layStep sect (layGo sect (layStep sect s i g) (i + 1) l) (i + (l.length + 1)) f
    rw [Nat.add_assoc, Nat.add_comm 1]

/-- sections, one after another -/
structure SS where
  adr : List Int
  pos : Int
  fr : List Int
  till : List Int
def secStep (fs : List Frg) (s : SS) (k : Int) : SS :=
  ⟨(layFrags k s.adr fs (next s.pos 16)).adr, (layFrags k s.adr fs (next s.pos 16)).pos, s.fr ++ [next s.pos 16], s.till ++ [(layFrags k s.adr fs (next s.pos 16)).pos]⟩

/-- common names -/
structure CS where
  names : List ByteArray
  at_ : List Int
  pos : Int
def comStep (ds : List Dfn) (s : CS) (n : ByteArray) : CS :=
  if (find ds n).2 = 0 ∧ (find ds n).1.kind = 3 then ⟨s.names ++ [n], s.at_ ++ [next s.pos (find ds n).1.align], next s.pos (find ds n).1.align + (find ds n).1.size⟩ else s
def commons (p : Prt) (pos : Int) : CS := (defined p).foldl (comStep p.defs) ⟨[], [], pos⟩

/-- the bounds that all keeps to -/
def AlignOk (a : Int) : Prop := a = 1 ∨ a = 2 ∨ a = 4 ∨ a = 8 ∨ a = 16

theorem next_bounds {a d : Int} (h : 0 ≤ a) (hd : AlignOk d) : a ≤ next a d ∧ next a d ≤ a + d - 1 := by
  unfold next
  rcases hd with rfl | rfl | rfl | rfl | rfl <;> omega
theorem next_div {a d : Int} (hd : AlignOk d) : next a d % d = 0 := by
  unfold next
  rcases hd with rfl | rfl | rfl | rfl | rfl <;> omega
theorem next_mono {a b d : Int} (h : a ≤ b) (hd : AlignOk d) : next a d ≤ next b d := by
  unfold next
  rcases hd with rfl | rfl | rfl | rfl | rfl <;> omega
theorem next_shift {a d t : Int} (hd : AlignOk d) : next (a + 16 * t) d = next a d + 16 * t := by
  unfold next
  rcases hd with rfl | rfl | rfl | rfl | rfl <;> omega
theorem AlignOk.pos {d : Int} (hd : AlignOk d) : 1 ≤ d ∧ d ≤ 16 := by
  rcases hd with rfl | rfl | rfl | rfl | rfl <;> omega

/-- a fragment within its bounds -/
structure FrgOk (f : Frg) : Prop where
  align : AlignOk f.align
  small : f.align ≤ 8
  long0 : 0 ≤ long f
  long64 : long f ≤ 64
  sect : 1 ≤ f.sect ∧ f.sect ≤ 5

theorem alignOk_of {a : Int} (h : isAlign a = true) : AlignOk a ∧ a ≤ 8 := by
  unfold isAlign at h
  simp only [Bool.or_eq_true, beq_iff_eq] at h
  unfold AlignOk
  omega

theorem frgOk_of {f : Frg} (h : shaped f = 0) : FrgOk f := by
  unfold shaped checkFrag at h
  split at h
  · cases h
  rename_i h1
  simp only [Bool.or_eq_true, Bool.not_eq_true', not_or, Bool.not_eq_false] at h1
  split at h
  · cases h
  split at h
  · cases h
  rename_i h3
  split at h
  · cases h
  rename_i h4
  have h4' := (Bool.not_eq_false _).mp h4
  simp only at h1 h3
  have ha := alignOk_of h1.2
  have hs : 1 ≤ f.sect ∧ f.sect ≤ 5 := by simpa [within] using h1.1
  unfold formed at h4'
  refine ⟨ha.1, ha.2, ?_, ?_, hs⟩
  all_goals
    unfold long lng
    split
    · rename_i h5
      simp [h5, within] at h4'
      omega
    · have : f.bytes.length ≤ 64 := by omega
      omega

/-- what a section's walk keeps: its place goes on, and stays small -/
theorem layStep_pos {sect : Int} {s : LS} {i : Nat} {f : Frg} (hf : FrgOk f) (h0 : 0 ≤ s.pos) : s.pos ≤ (layStep sect s i f).pos ∧ (layStep sect s i f).pos ≤ s.pos + 71 := by
  unfold layStep
  split
  · cases look s.seen f.bytes f.align with
    | none =>
      show s.pos ≤ next s.pos f.align + long f ∧ next s.pos f.align + long f ≤ s.pos + 71
      have := next_bounds h0 hf.align
      have := hf.small
      have := hf.long0
      have := hf.long64
      omega
    | some x => exact ⟨Int.le_refl _, by show s.pos ≤ s.pos + 71; omega⟩
  · omega

theorem layGo_pos {sect : Int} : ∀ (l : List Frg) (s : LS) (i : Nat), (∀ f ∈ l, FrgOk f) → 0 ≤ s.pos → s.pos ≤ (layGo sect s i l).pos ∧ (layGo sect s i l).pos ≤ s.pos + 71 * l.length
  | [], s, i, _, _ => ⟨Int.le_refl _, by show s.pos ≤ s.pos + 71 * ((0 : Nat) : Int); omega⟩
  | f :: l, s, i, h, h0 => by
    have h1 := layStep_pos (sect := sect) (i := i) (h f (List.mem_cons_self ..)) h0
    have h2 := layGo_pos (sect := sect) l (layStep sect s i f) (i + 1) (fun g hg => h g (List.mem_cons_of_mem _ hg)) (by omega)
    show s.pos ≤ (layGo sect (layStep sect s i f) (i + 1) l).pos ∧ (layGo sect (layStep sect s i f) (i + 1) l).pos ≤ s.pos + 71 * ((l.length + 1 : Nat) : Int)
    omega

theorem layStep_len (sect : Int) (s : LS) (i : Nat) (f : Frg) : (layStep sect s i f).adr.length = s.adr.length := by
  unfold layStep
  split
  · cases look s.seen f.bytes f.align with
    | none => exact List.length_set ..
    | some x => exact List.length_set ..
  · rfl

theorem layGo_len (sect : Int) : ∀ (l : List Frg) (s : LS) (i : Nat), (layGo sect s i l).adr.length = s.adr.length
  | [], _, _ => rfl
  | f :: l, s, i => (layGo_len sect l (layStep sect s i f) (i + 1)).trans (layStep_len sect s i f)

/-- what stands is somewhere from the beginning on, up to the place -/
theorem look_mem : ∀ {s : Seen} {bs : List Int} {al x : Int}, look s bs al = some x → (bs, al, x) ∈ s
  | (b, a, y) :: r, bs, al, x, h => by
    unfold look at h
    split at h
    · rename_i e
      obtain ⟨rfl, rfl⟩ := e
      cases h
      exact List.mem_cons_self ..
    · exact List.mem_cons_of_mem _ (look_mem h)

theorem layStep_seen {sect lo : Int} {s : LS} {i : Nat} {f : Frg} (hf : FrgOk f) (h0 : 0 ≤ s.pos) (hlo : lo ≤ s.pos) (h : ∀ x ∈ s.seen, lo ≤ x.2.2 ∧ x.2.2 ≤ s.pos) : ∀ x ∈ (layStep sect s i f).seen, lo ≤ x.2.2 ∧ x.2.2 ≤ (layStep sect s i f).pos := by
  have hp := layStep_pos (sect := sect) (i := i) hf h0
  intro x hx
  have keep : x ∈ s.seen → lo ≤ x.2.2 ∧ x.2.2 ≤ (layStep sect s i f).pos := fun hx => ⟨(h x hx).1, Int.le_trans (h x hx).2 hp.1⟩
  unfold layStep at hx
  split at hx
  · rename_i hs
    cases hl : look s.seen f.bytes f.align with
    | none =>
      rw [hl] at hx
      have hx' : x ∈ (layNew sect s i f).seen := hx
      unfold layNew at hx'
      simp only at hx'
      split at hx'
      · rcases List.mem_cons.1 hx' with rfl | hx'
        · unfold layStep
          rw [if_pos hs, hl]
          show lo ≤ next s.pos f.align ∧ next s.pos f.align ≤ next s.pos f.align + long f
          have := next_bounds h0 hf.align
          have := hf.long0
          omega
        · exact keep hx'
      · exact keep hx'
    | some y =>
      rw [hl] at hx
      exact keep hx
  · exact keep hx

end Go.Proofs.YtcdpboocfkaifaaGreatDoor.M

namespace Go.Proofs.YtcdpboocfkaifaaGreatDoor.M
open Go
set_option linter.unusedVariables false

/-- behind k sections: the addresses of the fragments so far, and where the last one ends -/
def secN (fs : List Frg) (base : Int) : Nat → List Int × Int
  | 0 => (List.replicate fs.length 0, base)
  | k + 1 => ((layFrags ((k : Int) + 1) (secN fs base k).1 fs (next (secN fs base k).2 16)).adr, (layFrags ((k : Int) + 1) (secN fs base k).1 fs (next (secN fs base k).2 16)).pos)

/-- where section i begins, k sections being laid out -/
def frAt (p : Prt) (base : Int) (k i : Nat) : Int := if 1 ≤ i ∧ i ≤ k then next (secN p.frags base (i - 1)).2 16 else 0
/-- where it ends -/
def tillOf (p : Prt) (base : Int) (i : Nat) : Int := if i = 5 then (commons p (secN p.frags base 5).2).pos else (secN p.frags base i).2
def tiAt (p : Prt) (base : Int) (k i : Nat) : Int := if 1 ≤ i ∧ i ≤ k then tillOf p base i else 0

structure Lay where
  frags : List Int
  names : List ByteArray
  coms : List Int
  fr : Nat → Int
  ti : Nat → Int
def lay0 : Lay := ⟨[], [], [], fun _ => 0, fun _ => 0⟩
def layAll (p : Prt) (base : Int) : Lay := ⟨(secN p.frags base 5).1, (commons p (secN p.frags base 5).2).names, (commons p (secN p.frags base 5).2).at_, frAt p base 5, tiAt p base 5⟩
def lay (p : Prt) (base : Int) : Lay × Int :=
  if checkPart p = 0 then
    if base < 0 ∨ 65536 ≤ base then (lay0, 3)
    else if 65536 < tillOf p base 5 then (lay0, 10) else (layAll p base, 0)
  else (lay0, checkPart p)

theorem secN_len (fs : List Frg) (base : Int) : ∀ k, (secN fs base k).1.length = fs.length
  | 0 => List.length_replicate ..
  | k + 1 => (layGo_len ..).trans (secN_len fs base k)

theorem secN_pos {fs : List Frg} {base : Int} (hf : ∀ f ∈ fs, FrgOk f) (hn : fs.length ≤ 60) (h0 : 0 ≤ base) : ∀ k : Nat, base ≤ (secN fs base k).2 ∧ (secN fs base k).2 ≤ base + 4275 * k
  | 0 => ⟨Int.le_refl _, by show base ≤ base + 4275 * ((0 : Nat) : Int); omega⟩
  | k + 1 => by
    have ih := secN_pos hf hn h0 k
    have hb := next_bounds (a := (secN fs base k).2) (d := 16) (by omega) (.inr (.inr (.inr (.inr rfl))))
    have hg := layGo_pos (sect := (k : Int) + 1) fs ⟨(secN fs base k).1, next (secN fs base k).2 16, []⟩ 0 hf (by show 0 ≤ next (secN fs base k).2 16; omega)
    simp only at hg
    show base ≤ (layGo ((k : Int) + 1) ⟨(secN fs base k).1, next (secN fs base k).2 16, []⟩ 0 fs).pos ∧ (layGo ((k : Int) + 1) ⟨(secN fs base k).1, next (secN fs base k).2 16, []⟩ 0 fs).pos ≤ base + 4275 * ((k + 1 : Nat) : Int)
    omega

end Go.Proofs.YtcdpboocfkaifaaGreatDoor.M
