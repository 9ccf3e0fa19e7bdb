/-
  The plain mathematics of package layout: where sections, fragments and common names stand. Lists and integers alone; nothing of the program.
-/
import Derived.Test.YtebhbhbhcoijpaaNmModel
namespace Go.Proofs.Ytebhbhbhcoijpaa.M
open Go
set_option linter.unusedVariables false

/-- the first address, from a on, that d divides -/
def next (a d : Int) : Int := (a + d - 1) / d * d

/-- texts that stand: bytes, alignment, where -/
abbrev Seen := List (List Int × Int × Int)
def look : Seen → List Int → Int → Option Int
  | [], _, _ => none
  | (b, a, x) :: r, bs, al => if b = bs ∧ a = al then some x else look r bs al

structure LS where
  adr : List Int
  pos : Int
  seen : Seen

/-- a fragment that stands on its own -/
def layNew (sect : Int) (s : LS) (i : Nat) (f : Frg) : LS :=
  ⟨s.adr.set i (next s.pos f.align), next s.pos f.align + long f, if sect = 3 then (f.bytes, f.align, next s.pos f.align) :: s.seen else s.seen⟩
def layOld (s : LS) (i : Nat) (x : Int) : LS := ⟨s.adr.set i x, s.pos, s.seen⟩
def layStep (sect : Int) (s : LS) (i : Nat) (f : Frg) : LS :=
  if f.sect = sect then (look s.seen f.bytes f.align).elim (layNew sect s i f) (layOld s i) else s

def layGo (sect : Int) : LS → Nat → List Frg → LS
  | s, _, [] => s
  | s, i, f :: fs => layGo sect (layStep sect s i f) (i + 1) fs
def layFrags (sect : Int) (tl : List Int) (fs : List Frg) (pos : Int) : LS := layGo sect ⟨tl, pos, []⟩ 0 fs

theorem layGo_snoc (sect : Int) (f : Frg) : ∀ (l : List Frg) (s : LS) (i : Nat), layGo sect s i (l ++ [f]) = layStep sect (layGo sect s i l) (i + l.length) f
  | [], s, i => rfl
  | g :: l, s, i => by
    show layGo sect (layStep sect s i g) (i + 1) (l ++ [f]) = _
    rw [layGo_snoc sect f l]
    show _ = layStep sect (layGo sect (layStep sect s i g) (i + 1) l) (i + (l.length + 1)) f
    rw [Nat.add_assoc, Nat.add_comm 1]

/-- sections, one after another -/
structure SS where
  adr : List Int
  pos : Int
  fr : List Int
  till : List Int
def secStep (fs : List Frg) (s : SS) (k : Int) : SS :=
  ⟨(layFrags k s.adr fs (next s.pos 16)).adr, (layFrags k s.adr fs (next s.pos 16)).pos, s.fr ++ [next s.pos 16], s.till ++ [(layFrags k s.adr fs (next s.pos 16)).pos]⟩

/-- common names -/
structure CS where
  names : List ByteArray
  at_ : List Int
  pos : Int
def comStep (ds : List Dfn) (s : CS) (n : ByteArray) : CS :=
  if (find ds n).2 = 0 ∧ (find ds n).1.kind = 3 then ⟨s.names ++ [n], s.at_ ++ [next s.pos (find ds n).1.align], next s.pos (find ds n).1.align + (find ds n).1.size⟩ else s
def commons (p : Prt) (pos : Int) : CS := (defined p).foldl (comStep p.defs) ⟨[], [], pos⟩

/-- the bounds that all keeps to -/
def AlignOk (a : Int) : Prop := a = 1 ∨ a = 2 ∨ a = 4 ∨ a = 8 ∨ a = 16

theorem next_bounds {a d : Int} (h : 0 ≤ a) (hd : AlignOk d) : a ≤ next a d ∧ next a d ≤ a + d - 1 := by
  unfold next
  rcases hd with rfl | rfl | rfl | rfl | rfl <;> omega
theorem next_div {a d : Int} (hd : AlignOk d) : next a d % d = 0 := by
  unfold next
  rcases hd with rfl | rfl | rfl | rfl | rfl <;> omega
theorem next_mono {a b d : Int} (h : a ≤ b) (hd : AlignOk d) : next a d ≤ next b d := by
  unfold next
  rcases hd with rfl | rfl | rfl | rfl | rfl <;> omega
theorem next_shift {a d t : Int} (hd : AlignOk d) : next (a + 16 * t) d = next a d + 16 * t := by
  unfold next
  rcases hd with rfl | rfl | rfl | rfl | rfl <;> omega
theorem AlignOk.pos {d : Int} (hd : AlignOk d) : 1 ≤ d ∧ d ≤ 16 := by
  rcases hd with rfl | rfl | rfl | rfl | rfl <;> omega

/-- a fragment within its bounds -/
structure FrgOk (f : Frg) : Prop where
  align : AlignOk f.align
  small : f.align ≤ 8
  long0 : 0 ≤ long f
  long64 : long f ≤ 64
  sect : 1 ≤ f.sect ∧ f.sect ≤ 5

theorem alignOk_of {a : Int} (h : isAlign a = true) : AlignOk a ∧ a ≤ 8 := by
  unfold isAlign at h
  simp only [Bool.or_eq_true, beq_iff_eq] at h
  unfold AlignOk
  omega

theorem frgOk_of {f : Frg} (h : shaped f = 0) : FrgOk f := by
  unfold shaped checkFrag at h
  split at h
  · cases h
  rename_i h1
  simp only [Bool.or_eq_true, Bool.not_eq_true', not_or, Bool.not_eq_false] at h1
  split at h
  · cases h
  split at h
  · cases h
  rename_i h3
  split at h
  · cases h
  rename_i h4
  have h4' := (Bool.not_eq_false _).mp h4
  simp only at h1 h3
  have ha := alignOk_of h1.2
  have hs : 1 ≤ f.sect ∧ f.sect ≤ 5 := by simpa [within] using h1.1
  unfold formed at h4'
  refine ⟨ha.1, ha.2, ?_, ?_, hs⟩
  all_goals
    unfold long lng
    split
    · rename_i h5
      simp [h5, within] at h4'
      omega
    · have : f.bytes.length ≤ 64 := by omega
      omega

/-- what a section's walk keeps: its place goes on, and stays small -/
theorem layStep_pos {sect : Int} {s : LS} {i : Nat} {f : Frg} (hf : FrgOk f) (h0 : 0 ≤ s.pos) : s.pos ≤ (layStep sect s i f).pos ∧ (layStep sect s i f).pos ≤ s.pos + 71 := by
  unfold layStep
  split
  · cases look s.seen f.bytes f.align with
    | none =>
      show s.pos ≤ next s.pos f.align + long f ∧ next s.pos f.align + long f ≤ s.pos + 71
      have := next_bounds h0 hf.align
      have := hf.small
      have := hf.long0
      have := hf.long64
      omega
    | some x => exact ⟨Int.le_refl _, by show s.pos ≤ s.pos + 71; omega⟩
  · omega

theorem layGo_pos {sect : Int} : ∀ (l : List Frg) (s : LS) (i : Nat), (∀ f ∈ l, FrgOk f) → 0 ≤ s.pos → s.pos ≤ (layGo sect s i l).pos ∧ (layGo sect s i l).pos ≤ s.pos + 71 * l.length
  | [], s, i, _, _ => ⟨Int.le_refl _, by show s.pos ≤ s.pos + 71 * ((0 : Nat) : Int); omega⟩
  | f :: l, s, i, h, h0 => by
    have h1 := layStep_pos (sect := sect) (i := i) (h f (List.mem_cons_self ..)) h0
    have h2 := layGo_pos (sect := sect) l (layStep sect s i f) (i + 1) (fun g hg => h g (List.mem_cons_of_mem _ hg)) (by omega)
    show s.pos ≤ (layGo sect (layStep sect s i f) (i + 1) l).pos ∧ (layGo sect (layStep sect s i f) (i + 1) l).pos ≤ s.pos + 71 * ((l.length + 1 : Nat) : Int)
    omega

theorem layStep_len (sect : Int) (s : LS) (i : Nat) (f : Frg) : (layStep sect s i f).adr.length = s.adr.length := by
  unfold layStep
  split
  · cases look s.seen f.bytes f.align with
    | none => exact List.length_set ..
    | some x => exact List.length_set ..
  · rfl

theorem layGo_len (sect : Int) : ∀ (l : List Frg) (s : LS) (i : Nat), (layGo sect s i l).adr.length = s.adr.length
  | [], _, _ => rfl
  | f :: l, s, i => (layGo_len sect l (layStep sect s i f) (i + 1)).trans (layStep_len sect s i f)

/-- what stands is somewhere from the beginning on, up to the place -/
theorem look_mem : ∀ {s : Seen} {bs : List Int} {al x : Int}, look s bs al = some x → (bs, al, x) ∈ s
  | (b, a, y) :: r, bs, al, x, h => by
    unfold look at h
    split at h
    · rename_i e
      obtain ⟨rfl, rfl⟩ := e
      cases h
      exact List.mem_cons_self ..
    · exact List.mem_cons_of_mem _ (look_mem h)

theorem layStep_seen {sect lo : Int} {s : LS} {i : Nat} {f : Frg} (hf : FrgOk f) (h0 : 0 ≤ s.pos) (hlo : lo ≤ s.pos) (h : ∀ x ∈ s.seen, lo ≤ x.2.2 ∧ x.2.2 ≤ s.pos) : ∀ x ∈ (layStep sect s i f).seen, lo ≤ x.2.2 ∧ x.2.2 ≤ (layStep sect s i f).pos := by
  have hp := layStep_pos (sect := sect) (i := i) hf h0
  intro x hx
  have keep : x ∈ s.seen → lo ≤ x.2.2 ∧ x.2.2 ≤ (layStep sect s i f).pos := fun hx => ⟨(h x hx).1, Int.le_trans (h x hx).2 hp.1⟩
  unfold layStep at hx
  split at hx
  · rename_i hs
    cases hl : look s.seen f.bytes f.align with
    | none =>
      rw [hl] at hx
      have hx' : x ∈ (layNew sect s i f).seen := hx
      unfold layNew at hx'
      simp only at hx'
      split at hx'
      · rcases List.mem_cons.1 hx' with rfl | hx'
        · unfold layStep
          rw [if_pos hs, hl]
          show lo ≤ next s.pos f.align ∧ next s.pos f.align ≤ next s.pos f.align + long f
          have := next_bounds h0 hf.align
          have := hf.long0
          omega
        · exact keep hx'
      · exact keep hx'
    | some y =>
      rw [hl] at hx
      exact keep hx
  · exact keep hx

end Go.Proofs.Ytebhbhbhcoijpaa.M
