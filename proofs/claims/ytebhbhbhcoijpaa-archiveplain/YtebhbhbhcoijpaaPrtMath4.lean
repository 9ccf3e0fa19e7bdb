/-
  Joining, in whatever way, as Join and All answer.
-/
import Derived.Test.YtebhbhbhcoijpaaPrtMath3
namespace Go.Proofs.Ytebhbhbhcoijpaa.M
set_option linter.unusedVariables false

theorem ok_nil : Ok nil := (ok_iff nil).1 (by decide)

theorem both_put {a b : Prt} (ha : Ok a) : both a b = put a (groups a.frags) b := by
  unfold both put
  rw [moved_id ha]

theorem join_ok {a b : Prt} (h : (join a b).2 = 0) : Ok a ∧ Ok b ∧ full (put a (groups a.frags) b) = false ∧ (join a b).1 = put a (groups a.frags) b ∧ Ok (join a b).1 := by
  unfold join at h ⊢
  by_cases h1 : checkPart a = 0
  · rw [if_pos h1] at h ⊢
    by_cases h2 : checkPart b = 0
    · rw [if_pos h2] at h ⊢
      have ha := (ok_iff a).1 h1
      have hb := (ok_iff b).1 h2
      rw [both_put ha] at h ⊢
      cases h3 : full (put a (groups a.frags) b)
      · rw [h3] at h
        exact ⟨ha, hb, rfl, rfl, ok_put ha hb h3⟩
      · rw [h3] at h; cases h
    · rw [if_neg h2] at h; exact absurd h h2
  · rw [if_neg h1] at h; exact absurd h h1

theorem join_of {a b : Prt} (ha : Ok a) (hb : Ok b) : join a b = bif full (put a (groups a.frags) b) then (nil, 10) else (put a (groups a.frags) b, 0) := by
  unfold join
  rw [if_pos ((ok_iff a).2 ha), if_pos ((ok_iff b).2 hb), both_put ha]

theorem nil_put {a : Prt} (ha : Ok a) : put nil (groups nil.frags) a = a := by
  show plus nil (moved (count [] 0 a.frags) a) = a
  rw [moved_id ha]; rfl
theorem put_nil (a : Prt) (l : List ByteArray) : put a l nil = a := by
  show plus a ⟨[], []⟩ = a
  simp [plus]
theorem ok_room {a : Prt} (ha : Ok a) : full a = false := by
  have := ha.nf; have := ha.nd
  simp [full]; omega

theorem nil_join {a : Prt} (ha : Ok a) : join nil a = (a, 0) := by
  rw [join_of ok_nil ha, nil_put ha, ok_room ha]; rfl
theorem join_nil {a : Prt} (ha : Ok a) : join a nil = (a, 0) := by
  rw [join_of ha ok_nil, put_nil, ok_room ha]; rfl

/-- nothing joined with a part is that -/
theorem join_ends {a : Prt} (h : (join nil a).2 = 0) : (join nil a).1 = a ∧ join a nil = (a, 0) := by
  obtain ⟨_, ha, _⟩ := join_ok h
  rw [nil_join ha]
  exact ⟨rfl, join_nil ha⟩

/-- three parts, joined in either way, or all at once -/
theorem join_order {a b c : Prt} (h1 : (join a b).2 = 0) (h2 : (join b c).2 = 0) :
    join a (join b c).1 = join (join a b).1 c ∧ allFrom nil [a, b, c] = (if (join (join a b).1 c).2 = 0 then ((join (join a b).1 c).1, 0) else (nil, (join (join a b).1 c).2)) ∧
    ((join (join a b).1 c).2 = 0 ∨ (join (join a b).1 c).2 = 10) := by
  obtain ⟨ha, hb, _, e1, hx⟩ := join_ok h1
  obtain ⟨_, hc, _, e2, hy⟩ := join_ok h2
  refine ⟨?_, ?_, ?_⟩
  · rw [join_of ha hy, join_of hx hc, e1, e2, put_assoc ha hb hc]
  · show (if (join nil a).2 = 0 then _ else _) = _
    rw [nil_join ha, if_pos rfl]
    show (if (join a b).2 = 0 then (if (join (join a b).1 c).2 = 0 then _ else _) else _) = _
    rw [if_pos h1]
    rfl
  · rw [join_of hx hc]
    cases full (put (join a b).1 (groups (join a b).1.frags) c)
    · exact .inl rfl
    · exact .inr rfl

end Go.Proofs.Ytebhbhbhcoijpaa.M
