/-
  Whatever the plan, what comes of it is what All of the parts is: the mathematics.
-/
import Derived.Test.YtmlojlbmfceogaaPlMa
import Derived.Test.YtmlojlbmfceogaaMathA
namespace Go.Proofs.Ytmlojlbmfceogaa.M

def pj (a b : Prt) : Prt := put a (groups a.frags) b
def pAll (A : Prt) (ps : List Prt) : Prt := ps.foldl pj A

theorem full_iff (a : Prt) : full a = false ↔ a.frags.length ≤ 60 ∧ a.defs.length ≤ 60 := by simp [full]
theorem full_mono {a b : Prt} (h : full (pj a b) = false) : full a = false := by
  rw [full_iff] at h ⊢
  have h1 : (pj a b).frags.length = a.frags.length + (moved (count (groups a.frags) a.frags.length b.frags) b).frags.length := by simp [pj, put, plus]
  have h2 : (pj a b).defs.length = a.defs.length + (moved (count (groups a.frags) a.frags.length b.frags) b).defs.length := by simp [pj, put, plus]
  omega
theorem all_room : ∀ (ps : List Prt) (A : Prt), full (pAll A ps) = false → full A = false
  | [], _, h => h
  | p :: ps, A, h => full_mono (all_room ps (pj A p) h)
theorem all_ok : ∀ (ps : List Prt) (A : Prt), Ok A → (∀ p ∈ ps, Ok p) → full (pAll A ps) = false → Ok (pAll A ps)
  | [], _, hA, _, _ => hA
  | p :: ps, A, hA, hp, h => all_ok ps (pj A p) (ok_put hA (hp p (by simp)) (all_room ps _ h)) (fun q hq => hp q (by simp [hq])) h
theorem all_from : ∀ (ps : List Prt) (A : Prt), Ok A → (∀ p ∈ ps, Ok p) → full (pAll A ps) = false → allFrom A ps = (pAll A ps, 0)
  | [], _, _, _, _ => rfl
  | p :: ps, A, hA, hp, h => by
    have hf : full (put A (groups A.frags) p) = false := all_room ps _ h
    have hj : join A p = (pj A p, 0) := by rw [join_of hA (hp p (by simp)), hf]; rfl
    rw [allFrom, hj, if_pos rfl]
    exact all_from ps (pj A p) (ok_put hA (hp p (by simp)) hf) (fun q hq => hp q (by simp [hq])) h
theorem from_ok : ∀ (ps : List Prt) (A : Prt), (allFrom A ps).2 = 0 → ∀ p ∈ ps, Ok p
  | [], _, _, p, hp => by cases hp
  | q :: ps, A, h, p, hp => by
    rw [allFrom] at h
    by_cases hj : (join A q).2 = 0
    · rw [if_pos hj] at h
      rcases List.mem_cons.1 hp with rfl | hp
      · exact (join_ok hj).2.1
      · exact from_ok ps _ h p hp
    · rw [if_neg hj] at h
      exact absurd h hj

theorem all_assoc (A : Prt) (hA : Ok A) : ∀ (n : Nat) (ps : List Prt), ps.length = n → (∀ p ∈ ps, Ok p) → full (pAll nil ps) = false → pj A (pAll nil ps) = pAll A ps
  | 0, ps, hn, _, _ => by
    rw [List.length_eq_zero_iff.1 hn]
    exact put_nil A _
  | n + 1, ps, hn, hp, h => by
    obtain ⟨qs, q, rfl⟩ : ∃ qs q, ps = qs ++ [q] := ⟨ps.dropLast, ps.getLast (by intro e; simp [e] at hn), (List.dropLast_concat_getLast _).symm⟩
    have e1 : ∀ B, pAll B (qs ++ [q]) = pj (pAll B qs) q := fun B => by simp [pAll, List.foldl_append]
    rw [e1] at h ⊢
    have hq : full (pAll nil qs) = false := full_mono h
    have hok := all_ok qs nil ok_nil (fun p hp' => hp p (by simp [hp'])) hq
    rw [e1, ← all_assoc A hA n qs (by simpa using hn) (fun p hp' => hp p (by simp [hp'])) hq]
    exact (put_assoc hA hok (hp q (by simp))).symm

theorem all_app (A : Prt) (x y : List Prt) : pAll A (x ++ y) = pAll (pAll A x) y := by simp [pAll, List.foldl_append]

def picked (parts : List Prt) (xs : List Int) : List Prt := xs.map fun x => parts.getD x.toNat nil

theorem getD_in {α : Type} (a b c : List α) (d : α) (i n m : Nat) (ha : a.length = n) (hi : i < m) (hb : b.length = m) : (a ++ b ++ c).getD (n + i) d = b.getD i d := by
  rw [List.getD_eq_getElem?_getD, List.getD_eq_getElem?_getD, List.append_assoc, List.getElem?_append_right (by omega), ha, Nat.add_sub_cancel_left, List.getElem?_append_left (by omega)]

theorem t_eval (parts : List Prt) (hp : ∀ p ∈ parts, Ok p) : ∀ (f : Nat) (l : List Nd) (b : Nat) (xs : List Int) (out : List Prt) (rest : List Nd), IsT f l b xs → (∀ x ∈ xs, 0 ≤ x ∧ x < parts.length) → out.length = b →
    (∃ outs, outs.length = l.length ∧ outs.getD (l.length - 1) nil = pAll nil (picked parts xs) ∧ full (pAll nil (picked parts xs)) = false ∧ evalGo parts out (l ++ rest) = evalGo parts (out ++ outs) rest) ∨ evalGo parts out (l ++ rest) = ([], 10)
  | 0, _, _, _, _, _, h, _, _ => h.elim
  | f + 1, l, b, xs, out, rest, h, hx, ho => by
    have hpk : ∀ ys : List Int, (∀ x ∈ ys, 0 ≤ x ∧ x < parts.length) → ∀ p ∈ picked parts ys, Ok p := fun ys hy p hp' => by
      obtain ⟨x, hxm, rfl⟩ := List.mem_map.1 hp'
      have := hy x hxm
      have hlt : x.toNat < parts.length := by omega
      refine hp _ ?_
      rw [List.getD_eq_getElem?_getD, List.getElem?_eq_getElem hlt]
      exact List.getElem_mem hlt
    rcases h with ⟨x, rfl, rfl⟩ | ⟨l1, l2, x1, x2, h1, h2, rfl, rfl⟩
    · left
      have hx0 := hx x (by simp)
      have hlf : (x == -1) = false := by simp; omega
      have hok := hpk [x] hx (parts.getD x.toNat nil) (by simp [picked])
      have e1 : pAll nil (picked parts [x]) = parts.getD x.toNat nil := by
        show pj nil (parts.getD x.toNat nil) = _
        exact nil_put hok
      refine ⟨[parts.getD x.toNat nil], rfl, by rw [e1]; rfl, by rw [e1]; exact ok_room hok, ?_⟩
      have eL : evalLeft out ⟨x, 0, 0⟩ = nil := by simp only [evalLeft, hlf, cond_false]
      have eR : evalRight parts out ⟨x, 0, 0⟩ = parts.getD x.toNat nil := by simp only [evalRight, hlf, cond_false]
      rw [List.cons_append, List.nil_append, evalGo, eL, eR, nil_join hok, if_pos rfl]
    · have p1 := (t_pos f _ _ _ h1).1
      have p2 := (t_pos f _ _ _ h2).1
      have hx1 : ∀ x ∈ x1, 0 ≤ x ∧ x < (parts.length : Int) := fun x hx' => hx x (by simp [hx'])
      have hx2 : ∀ x ∈ x2, 0 ≤ x ∧ x < (parts.length : Int) := fun x hx' => hx x (by simp [hx'])
      have eL : l1 ++ l2 ++ [(⟨-1, (b + l1.length - 1 : Nat), (b + l1.length + l2.length - 1 : Nat)⟩ : Nd)] ++ rest = l1 ++ (l2 ++ (⟨-1, (b + l1.length - 1 : Nat), (b + l1.length + l2.length - 1 : Nat)⟩ :: rest)) := by simp
      rw [eL]
      rcases t_eval parts hp f l1 b x1 out _ h1 hx1 ho with ⟨o1, g1, g2, g3, g4⟩ | g
      · rw [g4]
        rcases t_eval parts hp f l2 (b + l1.length) x2 (out ++ o1) (⟨-1, (b + l1.length - 1 : Nat), (b + l1.length + l2.length - 1 : Nat)⟩ :: rest) h2 hx2 (by simp [ho, g1]) with ⟨o2, k1, k2, k3, k4⟩ | k
        · rw [k4]
          have ok1 := all_ok _ nil ok_nil (hpk x1 hx1) g3
          have ok2 := all_ok _ nil ok_nil (hpk x2 hx2) k3
          have v1 : evalLeft (out ++ o1 ++ o2) ⟨-1, (b + l1.length - 1 : Nat), (b + l1.length + l2.length - 1 : Nat)⟩ = pAll nil (picked parts x1) := by
            simp only [evalLeft, beq_self_eq_true, cond_true, Int.toNat_natCast]
            rw [show b + l1.length - 1 = b + (l1.length - 1) by omega, getD_in out o1 o2 nil (l1.length - 1) b l1.length ho (by omega) g1]
            exact g2
          have v2 : evalRight parts (out ++ o1 ++ o2) ⟨-1, (b + l1.length - 1 : Nat), (b + l1.length + l2.length - 1 : Nat)⟩ = pAll nil (picked parts x2) := by
            simp only [evalRight, beq_self_eq_true, cond_true, Int.toNat_natCast]
            have := getD_in (out ++ o1) o2 [] nil (l2.length - 1) (b + l1.length) l2.length (by simp [ho, g1]) (by omega) k1
            rw [List.append_nil] at this
            rw [show b + l1.length + l2.length - 1 = b + l1.length + (l2.length - 1) by omega, this]
            exact k2
          have eP : pAll nil (picked parts (x1 ++ x2)) = pj (pAll nil (picked parts x1)) (pAll nil (picked parts x2)) := by
            rw [all_assoc _ ok1 _ _ rfl (hpk x2 hx2) k3, ← all_app]
            simp [picked]
          have hj := join_of ok1 ok2
          rw [evalGo, v1, v2, hj]
          cases hfl : full (put (pAll nil (picked parts x1)) (groups (pAll nil (picked parts x1)).frags) (pAll nil (picked parts x2)))
          · left
            refine ⟨o1 ++ o2 ++ [pj (pAll nil (picked parts x1)) (pAll nil (picked parts x2))], by simp [g1, k1], ?_, by rw [eP]; exact hfl, ?_⟩
            · rw [eP]
              have := getD_in (o1 ++ o2) [pj (pAll nil (picked parts x1)) (pAll nil (picked parts x2))] [] nil 0 (l1.length + l2.length) 1 (by simp [g1, k1]) (by omega) rfl
              rw [List.append_nil] at this
              rw [show (l1 ++ l2 ++ [(⟨-1, (b + l1.length - 1 : Nat), (b + l1.length + l2.length - 1 : Nat)⟩ : Nd)]).length - 1 = l1.length + l2.length + 0 by simp, this]
              rfl
            · simp only [cond_false, if_pos]
              simp only [List.append_assoc]
              rfl
          · right
            rfl
        · exact .inr k
      · exact .inr g

theorem picked_rise (parts : List Prt) : ∀ (n a : Nat), a + n ≤ parts.length → picked parts (rise a n) = (parts.drop a).take n
  | 0, a, _ => by simp [picked, rise]
  | n + 1, a, h => by
    have ih := picked_rise parts n (a + 1) (by omega)
    have e : parts.drop a = parts.getD a nil :: parts.drop (a + 1) := by
      rw [List.getD_eq_getElem?_getD, List.getElem?_eq_getElem (by omega)]
      exact List.drop_eq_getElem_cons (by omega)
    rw [e, List.take_succ_cons, ← ih]
    simp [picked, rise]

theorem checkEach_ok : ∀ ps : List Prt, checkEach ps = 0 ↔ ∀ p ∈ ps, Ok p
  | [] => by simp [checkEach]
  | p :: ps => by
    rw [checkEach]
    by_cases h : checkPart p = 0
    · rw [if_pos h, checkEach_ok ps]
      constructor
      · intro h2 q hq
        rcases List.mem_cons.1 hq with rfl | hq
        · exact (ok_iff _).1 h
        · exact h2 q hq
      · intro h2 q hq
        exact h2 q (by simp [hq])
    · rw [if_neg h]
      constructor
      · intro h2; exact absurd h2 h
      · intro h2; exact absurd ((ok_iff p).2 (h2 p (by simp))) h

/-- what comes of a plan that picks made -/
theorem eval_made (parts : List Prt) (picks : List Int) (h1 : 1 ≤ parts.length) (h12 : parts.length ≤ 12) :
    ((eval (makeL parts.length picks) parts).2 = 0 → (allFrom nil parts).2 = 0 ∧ (eval (makeL parts.length picks) parts).1.length = (makeL parts.length picks).length ∧ (eval (makeL parts.length picks) parts).1.getD ((makeL parts.length picks).length - 1) nil = (allFrom nil parts).1)
    ∧ ((allFrom nil parts).2 = 0 → (eval (makeL parts.length picks) parts).2 = 0 ∨ (eval (makeL parts.length picks) parts).2 = 10) := by
  have ht := makeL_t parts.length picks h1
  have hck := t_check ht h1 h12
  have hpk : picked parts (rise 0 parts.length) = parts := by
    have := picked_rise parts parts.length 0 (by omega)
    simpa using this
  unfold eval
  rw [if_pos hck]
  by_cases he : checkEach parts = 0
  · rw [if_pos he]
    have hok := (checkEach_ok parts).1 he
    have := t_eval parts hok _ _ _ _ [] [] ht (fun x hx => rise_0 hx) rfl
    rw [hpk, List.append_nil] at this
    rcases this with ⟨outs, g1, g2, g3, g4⟩ | g
    · rw [g4]
      have hall := all_from parts nil ok_nil hok g3
      refine ⟨fun _ => ?_, fun _ => .inl rfl⟩
      rw [hall]
      exact ⟨rfl, by simpa [evalGo] using g1, by simpa [evalGo] using g2⟩
    · rw [g]
      exact ⟨fun h => absurd h (by decide), fun _ => .inr rfl⟩
  · rw [if_neg he]
    refine ⟨fun h => absurd h he, fun h => ?_⟩
    exact absurd ((checkEach_ok parts).2 (from_ok parts nil h)) he

end Go.Proofs.Ytmlojlbmfceogaa.M
