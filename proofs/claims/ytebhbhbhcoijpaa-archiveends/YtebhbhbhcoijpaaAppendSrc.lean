/-
  'append(s, x...)' onto a row of one's own, of whatever slice: its cells are known, or it is nil.
-/
import Derived.Test.YtebhbhbhcoijpaaOwnRow
import Derived.Laws.OwnMore
namespace Go.Proofs.Ytebhbhbhcoijpaa
open Go Go.RowKit
set_option linter.unusedVariables false

/-- a slice of m elements whose cells are known -/
def Src (w : World) (u : Value) (m : Nat) (news : List Value) : Prop :=
  ∃ ad c, u = .slice ad m c ∧ ((news = [] ∧ m = 0 ∧ ad = none) ∨ ∃ a, ad = some a ∧ ∀ j x, news[j]? = some x → w.cell? (a.add j) = some x)

theorem Src.alloc {w : World} {u : Value} {m : Nat} {news : List Value} (h : Src w u m news) (o : Obj) : Src (w.alloc o) u m news := by
  obtain ⟨ad, c, rfl, h⟩ := h
  refine ⟨ad, c, rfl, ?_⟩
  rcases h with h | ⟨a, rfl, h⟩
  · exact .inl h
  · exact .inr ⟨a, rfl, fun j x hx => cell_later ((Below.refl _ _).alloc (Nat.le_refl _) o) (h j x hx)⟩

theorem Src.later {w w' : World} {u : Value} {m : Nat} {news : List Value} (h : Src w u m news) (hb : Below w.heap.size w w') : Src w' u m news := by
  obtain ⟨ad, c, rfl, h⟩ := h
  refine ⟨ad, c, rfl, ?_⟩
  rcases h with h | ⟨a, rfl, h⟩
  · exact .inl h
  · exact .inr ⟨a, rfl, fun j x hx => cell_later hb (h j x hx)⟩

theorem addr_add (b off q : Nat) : (⟨b, off + q, none⟩ : Addr) = (⟨b, off, none⟩ : Addr).add q := by
  unfold Addr.add
  split <;> simp_all

theorem SlAt.src {w : World} {u : Value} {k n : Nat} {cell : Nat → Nat → Value} (h : SlAt w u k n cell) (hk : 0 < k) (news : List Value) (hl : news.length = n * k) (hc : ∀ j i, j < n → i < k → news[j * k + i]? = some (cell j i)) : Src w u n news := by
  obtain ⟨a, c, rfl, hn, h⟩ := h
  refine ⟨a, c, rfl, ?_⟩
  by_cases h0 : n = 0
  · subst h0
    have : news = [] := by rw [Nat.zero_mul] at hl; exact List.length_eq_zero_iff.1 hl
    subst this
    cases a with
    | none => exact .inl ⟨rfl, rfl, rfl⟩
    | some a => exact .inr ⟨a, rfl, fun j x hx => by simp at hx⟩
  · rcases h with h | ⟨b, off, rfl, h⟩
    · exact absurd h h0
    · refine .inr ⟨_, rfl, fun q x hx => ?_⟩
      have hq : q < n * k := by rw [← hl]; exact (List.getElem?_eq_some_iff.1 hx).1
      have e : q = q / k * k + q % k := by rw [Nat.mul_comm]; exact (Nat.div_add_mod q k).symm
      have h1 : q / k < n := (Nat.div_lt_iff_lt_mul hk).2 hq
      have h2 : q % k < k := Nat.mod_lt _ hk
      have h3 := hc (q / k) (q % k) h1 h2
      rw [← e, hx] at h3
      have h4 := h (q / k) (q % k) h1 h2
      have e2 : (⟨b, off + q / k * k + q % k, none⟩ : Addr) = (⟨b, off, none⟩ : Addr).add q := by
        rw [show off + q / k * k + q % k = off + q by omega]
        exact addr_add b off q
      rw [e2] at h4
      rw [h4, Option.some.inj h3]

theorem row_src {w : World} {B k n : Nat} {e : TypeId} {v : Value} {xs : List Value} (h : w.ownsRow B e k v n xs) : Src w v n xs := by
  rcases h.2 with ⟨h1, h2⟩ | ⟨g, cap, cur, h1, _⟩
  · subst h2
    have : xs = [] := by have := h.1; rw [Nat.zero_mul] at this; exact List.length_eq_zero_iff.1 this
    exact ⟨none, 0, h1, .inl ⟨this, rfl, rfl⟩⟩
  · refine ⟨_, _, h1, .inr ⟨_, rfl, fun j x hx => ?_⟩⟩
    exact h.cells (show v.ownBlock = some g by rw [h1]; rfl) j x hx

/-- (the library's own, whatever room a nil slice claims: the model does not look at it) -/
theorem run_append_none {P : Program} (w : World) (base : Nat) (t ty e : TypeId) (i : TypeInfo) (size : Nat) (ht : P.underlying t = some (.slice e)) (hi : P.info? e = some i) (v : Value) (n : Nat) (xs : List Value) (hown : w.ownsRow base e size v n xs) (c : Nat) :
    (Builtin.append_ #[t, t] ty #[v, .slice none 0 c]).run P w = .ok v w :=
  run_append_owned_none w base t ty e i size ht hi v n xs hown

theorem wp_append_src {P : Program} (w : World) {o : Oper} {a : Act} {K : Act → World → Prop} {Q : Exit → Act → World → Prop} (s x : Operand) (t : TypeId)
    (ho : o.op = .call { callee := .builtin .append, args := #[s, x], argTypes := #[t, t] })
    (base : Nat) (e : TypeId) (i : TypeInfo) (z : Value) (size bytes : Nat) (ht : P.underlying t = some (.slice e)) (hi : P.info? e = some i) (hz : i.zero = some z)
    (hsize : i.size = size) (hby : i.bytes = bytes) (hzs : z.cells.size = size) (hsz : 0 < size)
    (v : Value) (n : Nat) (xs : List Value) (hs : a.eval s = v) (hown : w.ownsRow base e size v n xs)
    (u : Value) (m : Nat) (news : List Value) (hx : a.eval x = u) (hsrc : Src w u m news) (hl : news.length = m * size) (h1 : ∀ u ∈ news, u.oneCell' = true)
    (h63 : n + m ≤ maxLen) (hbytes : (n + m) * bytes ≤ 140737488355328) (hbase : base ≤ w.heap.size)
    (h : ∀ v' w', w'.ownsRow base e size v' (n + m) (xs ++ news) → w.grownBy w' v.ownBlock → K (a.put o.dst v') w') : o.wp P a w K Q := by
  obtain ⟨ad, c, rfl, hsrc⟩ := hsrc
  rcases hsrc with ⟨rfl, rfl, rfl⟩ | ⟨a', rfl, hnews⟩
  · have hr := run_append_none (P := P) w base t o.type e i size ht hi v n xs hown c
    unfold Oper.wp execOp
    simp only [ho, resolve, invoke, builtin, Sem.run_bind, Sem.run_pure, Result.andThen_ok, List.map_toArray, List.map_cons, List.map_nil, hs, hx, hr]
    exact h v w (by simpa using hown) (grown_of_below (Below.refl _ _) _)
  · exact wp_append_own w s x t ho base e i z size bytes ht hi hz hsize hby hzs hsz v n xs hs hown a' m c news hx hl hnews h1 h63 hbytes hbase fun v' w' h2 h3 _ => h v' w' h2 h3

theorem wpList_append_src {P : Program} (w : World) {ops : Array Oper} {rest : List Oper} {o : Oper} {a : Act} {Q : Exit → Act → World → Prop} (hgd : o.guard = none) (s x : Operand) (t : TypeId)
    (ho : o.op = .call { callee := .builtin .append, args := #[s, x], argTypes := #[t, t] })
    (base : Nat) (e : TypeId) (i : TypeInfo) (z : Value) (size bytes : Nat) (ht : P.underlying t = some (.slice e)) (hi : P.info? e = some i) (hz : i.zero = some z)
    (hsize : i.size = size) (hby : i.bytes = bytes) (hzs : z.cells.size = size) (hsz : 0 < size)
    (v : Value) (n : Nat) (xs : List Value) (hs : a.eval s = v) (hown : w.ownsRow base e size v n xs)
    (u : Value) (m : Nat) (news : List Value) (hx : a.eval x = u) (hsrc : Src w u m news) (hl : news.length = m * size) (h1 : ∀ u ∈ news, u.oneCell' = true)
    (h63 : n + m ≤ maxLen) (hbytes : (n + m) * bytes ≤ 140737488355328) (hbase : base ≤ w.heap.size)
    (h : ∀ v' w', w'.ownsRow base e size v' (n + m) (xs ++ news) → w.grownBy w' v.ownBlock → wpList P ops Q rest (a.put o.dst v') w') : wpList P ops Q (o :: rest) a w :=
  wpList_plain hgd fun _ hK => wp_append_src w s x t ho base e i z size bytes ht hi hz hsize hby hzs hsz v n xs hs hown u m news hx hsrc hl h1 h63 hbytes hbase fun v' w' h2 h3 => hK _ _ (h v' w' h2 h3)

end Go.Proofs.Ytebhbhbhcoijpaa
