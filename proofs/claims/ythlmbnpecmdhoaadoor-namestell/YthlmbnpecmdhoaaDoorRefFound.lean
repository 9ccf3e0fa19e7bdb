/-
  The contract of the reference's Found: a map from kinds to definitions.
-/
import Derived.Test.YthlmbnpecmdhoaaDoorRefBy
import Derived.Test.YthlmbnpecmdhoaaDoorNmFind2
import Derived.Deep.AppendLies
import Derived.Deep.RegionHeld3
import Derived.Maps.RangeWalk
namespace Go.Proofs.YthlmbnpecmdhoaaDoor
open Go Go.RowKit Go.Maps
set_option linter.unusedVariables false

/-- a slice, told by where it lies -/
def slElem : Value → Option (DataW Unit × List MemPlace)
  | .slice none 0 0 => some (.nil, [])
  | .slice (some ⟨g, 0, none⟩) n c => some (.agg [.lit (.int .i64 g), .lit (.int .i64 n), .lit (.int .i64 c)], [])
  | _ => none

def datS (v : Value) : DataW Unit := ((slElem v).getD (.nil, [])).1

theorem slElem_inj {a b : Value} {x : DataW Unit} {p p' : List MemPlace} (h1 : slElem a = some (x, p)) (h2 : slElem b = some (x, p')) : a = b := by
  unfold slElem at h1 h2
  split at h1 <;> split at h2 <;> simp_all
  all_goals (obtain ⟨rfl, _⟩ := h1; simp at h2; try (obtain ⟨⟨h3, h4, h5⟩, _⟩ := h2; exact ⟨by omega, by omega, by omega⟩))

theorem slElem_own {w : World} {B k n : Nat} {e : TypeId} {v : Value} {xs : List Value} (h : w.ownsRow B e k v n xs) : slElem v = some (datS v, []) := by
  rcases h.2 with ⟨rfl, _⟩ | ⟨g, cap, cur, rfl, _⟩ <;> rfl

theorem keyI : Keyed Tryd.prog 3 := int_keyed Tryd.underlying3

/-- a row is no map -/
theorem row_map {H : Type} {w : World} {B k n b m : Nat} {e kt : TypeId} {v : Value} {xs : List Value} {R : Value → Option (DataW H × List MemPlace)} {D : DataW H} (h : w.ownsRow B e k v n xs) (ho : w.ownsMap Tryd.prog kt R b m D) : v.ownBlock = none ∨ v.ownBlock ≠ some b := by
  rcases h.2 with ⟨rfl, _⟩ | ⟨g, cap, cur, rfl, _, hb, _⟩
  · exact .inl rfl
  · right
    intro he
    cases he
    obtain ⟨es, clock, hm, _⟩ := ho
    rw [hm] at hb
    cases hb

/-- the definitions of a name, by their kinds -/
structure Grp (wr : World) (B0 B k : Nat) (D : DataW Unit) (ds : List M.Dfn) (s : ByteArray) (v : Int → Value) : Prop where
  map : wr.ownsMap Tryd.prog 3 slElem B k D
  isMap : IsMap D
  at_ : ∀ q, D.atKey (.int .i64 q) .nil = datS (v q)
  row : ∀ q, wr.ownsRow B0 31 6 (v q) (M.ofKind ds s q).length ((M.ofKind ds s q).flatMap encDfn)
  ap : ∀ q q', q ≠ q' → (v q).ownBlock = none ∨ (v q).ownBlock ≠ (v q').ownBlock

theorem Grp.later {wr X : World} {B0 B k : Nat} {D : DataW Unit} {ds : List M.Dfn} {s : ByteArray} {v : Int → Value} (h : Grp wr B0 B k D ds s v) (hb : Below wr.heap.size wr X) : Grp X B0 B k D ds s v :=
  ⟨h.map.kept (grown_of_below hb none) (by simp), h.isMap, h.at_, fun q => (h.row q).kept (grown_of_below hb none) own_self, h.ap⟩

/-- what is looked up -/
theorem Grp.look {wr : World} {B0 B k : Nat} {D : DataW Unit} {ds : List M.Dfn} {s : ByteArray} {v : Int → Value} (h : Grp wr B0 B k D ds s v) (q : Int) (hq : (Lit.int .i64 q).wf = true) :
    (Instr.lookup 65 (.map (some B)) (.int .i64 q) false).run Tryd.prog wr = .ok (v q) wr := by
  obtain ⟨x, ps, hrun, hx⟩ := h.map.lookup keyI Tryd.underlying65 (z := .slice none 0 0) (zd := .nil) (zp := []) (by kernel_rfl) rfl (keyOf_int_mk Tryd.underlying3 hq)
  rw [h.at_ q] at hx
  rw [hrun, slElem_inj hx (slElem_own (h.row q))]

theorem ofKind_snoc (ds : List M.Dfn) (s : ByteArray) (q : Int) (d : M.Dfn) : M.ofKind (ds ++ [d]) s q = M.ofKind ds s q ++ bif M.isDef s q d then [d] else [] := by
  unfold M.ofKind
  rw [List.filter_append, List.filter_cons, List.filter_nil]
  cases M.isDef s q d <;> rfl

theorem Grp.skip {wr : World} {B0 B k : Nat} {D : DataW Unit} {ds : List M.Dfn} {s : ByteArray} {v : Int → Value} {d : M.Dfn} (h : Grp wr B0 B k D ds s v) (hd : (d.name.toList == s.toList) = false) : Grp wr B0 B (k + 1) D (ds ++ [d]) s v := by
  refine ⟨h.map.mono (Nat.le_succ _), h.isMap, h.at_, fun q => ?_, h.ap⟩
  rw [ofKind_snoc]
  unfold M.isDef
  rw [hd, Bool.false_and, cond_false, List.append_nil]
  exact h.row q

theorem Grp.put {X w5 : World} {B0 B k : Nat} {D : DataW Unit} {ds : List M.Dfn} {s : ByteArray} {v : Int → Value} {d : M.Dfn} {v5 : Value} (h : Grp X B0 B k D ds s v) (hk : k < 1000) (hg : X.grownBy w5 (v d.kind).ownBlock)
    (ho : w5.ownsRow B0 31 6 v5 ((M.ofKind ds s d.kind).length + 1) ((M.ofKind ds s d.kind).flatMap encDfn ++ encDfn d)) (hat : (v d.kind).ownBlock = v5.ownBlock ∨ v5.ownBlock = some X.heap.size) (hd : (d.name.toList == s.toList) = true) (hq : (Lit.int .i64 d.kind).wf = true) :
    ∃ w6, (Instr.mapUpdate 65 (.map (some B)) (.int .i64 d.kind) v5).run Tryd.prog w5 = .ok () w6 ∧ w5.grownBy w6 (some B) ∧ Grp w6 B0 B (k + 1) (D.put (.int .i64 d.kind) (datS v5)) (ds ++ [d]) s (fun q => if q = d.kind then v5 else v q) := by
  have hm5 := h.map.kept hg (by
    intro e
    rcases row_map (h.row d.kind) h.map with h1 | h1
    · rw [h1] at e; cases e
    · exact h1 e.symm)
  obtain ⟨w6, hrun, hown6, hg6⟩ := hm5.update keyI Tryd.underlying65 (by unfold maxLen; omega) (keyOf_int_mk Tryd.underlying3 hq) (slElem_own ho)
  refine ⟨w6, hrun, hg6, hown6, h.isMap.put _ _, fun q => ?_, fun q => ?_, fun q q' hne => ?_⟩
  · by_cases e : q = d.kind
    · subst e
      rw [if_pos rfl, atKey_put_same h.isMap (by trivial)]
    · rw [if_neg e, atKey_put_other (by simpa using e)]
      exact h.at_ q
  · rw [ofKind_snoc]
    unfold M.isDef
    rw [hd, Bool.true_and]
    by_cases e : q = d.kind
    · subst e
      rw [if_pos rfl]
      simp only [beq_self_eq_true, cond_true, List.length_append, List.flatMap_append, List.flatMap_cons, List.flatMap_nil, List.append_nil, List.length_singleton]
      exact ho.kept hg6 (row_map ho hm5)
    · rw [if_neg e]
      have : (d.kind == q) = false := by rw [beq_eq_false_iff_ne]; exact fun h => e h.symm
      rw [this, cond_false, List.append_nil]
      have h1 := (h.row q).kept hg (h.ap q d.kind e)
      exact h1.kept hg6 (row_map h1 hm5)
  · have fresh : ∀ q, (v q).ownBlock = none ∨ (v q).ownBlock ≠ some X.heap.size := fun q => by
      cases hv : (v q).ownBlock with
      | none => exact .inl rfl
      | some g =>
        right
        intro e
        cases e
        have := ((h.row q).lt _ hv).2
        omega
    by_cases e : q = d.kind
    · subst e
      rw [if_pos rfl, if_neg (fun h => hne h.symm)]
      rcases hat with h1 | h1
      · rw [← h1]; exact h.ap _ _ hne
      · rw [h1]
        right
        intro e2
        rcases fresh q' with h2 | h2
        · rw [h2] at e2; cases e2
        · exact h2 e2.symm
    · rw [if_neg e]
      by_cases e' : q' = d.kind
      · subst e'
        rw [if_pos rfl]
        rcases hat with h1 | h1
        · rw [← h1]; exact h.ap _ _ hne
        · rw [h1]; exact fresh q
      · rw [if_neg e']; exact h.ap _ _ hne

theorem Grp.made (w : World) (B0 : Nat) (s : ByteArray) : Grp (w.alloc (.map #[] 0)) B0 w.heap.size 0 (.map []) [] s (fun _ => .slice none 0 0) :=
  ⟨World.ownsMap_made _ _ _ _, isMap_empty, fun q => rfl, fun q => World.ownsRow_nil _ _ _ _, fun q q' _ => .inl rfl⟩

end Go.Proofs.YthlmbnpecmdhoaaDoor
