/-
  The contract of layout.layFrags: a section's fragments.
-/
import Derived.Test.YtebhbhbhcoijpaaLyKey
import Derived.Test.YtebhbhbhcoijpaaPrtFrag
import Derived.Test.YtebhbhbhcoijpaaLater
import Derived.Deep.RegionHeld3
import Derived.Shelf.Bytes.SlSmallAll
namespace Go.Proofs.Ytebhbhbhcoijpaa
open Go Go.RowKit Go.Maps
set_option linter.unusedVariables false
attribute [local go_sem] lat_cell

theorem gb_new {w W W' : World} {r : Option Nat} {m : Nat} (h : w.grownBy W r) (h' : W.grownBy W' (some m)) (hm : w.heap.size ≤ m) : w.grownBy W' r :=
  ⟨h'.os.trans h.os, h'.tape.trans h.tape, h'.output.trans h.output, Nat.le_trans h.size h'.size, fun k hk hne => (h'.block k (Nat.lt_of_lt_of_le hk h.size) (by intro e; have := Option.some.inj e; omega)).trans (h.block k hk hne)⟩

theorem row_nomap {H : Type} {w : World} {B k n b m g c : Nat} {e kt : TypeId} {xs : List Value} {R : Value → Option (DataW H × List MemPlace)} {D : DataW H} (h : w.ownsRow B e k (.slice (some ⟨g, 0, none⟩) n c) n xs) (ho : w.ownsMap Try.prog kt R b m D) : g ≠ b := by
  rcases h.2 with ⟨h1, _⟩ | ⟨g', cap, cur, h1, _, hb, _⟩
  · cases h1
  · cases h1
    intro he
    subst he
    obtain ⟨es, clock, hm, _⟩ := ho
    rw [hm] at hb
    cases hb

theorem row_cell {w : World} {B n g c : Nat} {e : TypeId} {xs : List Int} (h : w.ownsRow B e 1 (.slice (some ⟨g, 0, none⟩) n c) n (xs.map (Value.int .i64))) (k : Nat) (hk : k < n) :
    w.cell? ⟨g, k, none⟩ = some (.int .i64 (xs.getD k 0)) ∧ w.frozen? ⟨g, k, none⟩ = false ∧ g < w.heap.size := by
  have hl := h.1
  rw [List.length_map, Nat.mul_one] at hl
  rcases h.2 with ⟨h1, _⟩ | ⟨g', cap, cur, h1, _, hb, hnc, hcm, hcs, htk⟩
  · cases h1
  · cases h1
    refine ⟨?_, frozenB hb k, (Array.getElem?_eq_some_iff.1 hb).1⟩
    rw [cellB hb k]
    have h2 : (cur.toList.take (n * 1))[k]? = (xs.map (Value.int .i64))[k]? := by rw [htk]
    rw [List.getElem?_take_of_lt (by omega), List.getElem?_map] at h2
    rw [← Array.getElem?_toList, h2, List.getElem?_eq_getElem (by omega : k < xs.length), List.getD_eq_getElem?_getD, List.getElem?_eq_getElem (by omega : k < xs.length)]
    rfl

/-- what a section's walk keeps in memory -/
structure LI (w W : World) (B g cap n mb k : Nat) (D : DataW Unit) (tl : List Int) : Prop where
  map : W.ownsMap Try.prog 148 (plainElem Try.prog 3) mb k D
  row : W.ownsRow B 3 1 (.slice (some ⟨g, 0, none⟩) n cap) n (tl.map (Value.int .i64))
  gb : w.grownBy W (some g)
  new : w.heap.size ≤ mb

theorem LI.later {w W W' : World} {B g cap n mb k : Nat} {D : DataW Unit} {tl : List Int} (h : LI w W B g cap n mb k D tl) (hb : Below W.heap.size W W') : LI w W' B g cap n mb k D tl :=
  ⟨h.map.kept (grown_of_below hb none) (by simp), h.row.kept (grown_of_below hb none) own_self, grown_trans h.gb (grown_of_below hb _), h.new⟩

theorem LI.more {w W : World} {B g cap n mb k : Nat} {D : DataW Unit} {tl : List Int} (h : LI w W B g cap n mb k D tl) : LI w W B g cap n mb (k + 1) D tl := ⟨h.map.mono (Nat.le_succ _), h.row, h.gb, h.new⟩

theorem LI.store {w W : World} {B g cap n mb k : Nat} {D : DataW Unit} {tl : List Int} (h : LI w W B g cap n mb k D tl) (j : Nat) (x : Int) : LI w (W.setCell ⟨g, j, none⟩ (.int .i64 x)) B g cap n mb k D (tl.set j x) := by
  have hs := h.row.stored j (.int .i64 x)
  refine ⟨h.map.kept hs.2 (fun e => row_nomap h.row h.map (Option.some.inj e).symm), ?_, grown_trans h.gb hs.2, h.new⟩
  rw [List.map_set]
  exact hs.1

theorem LI.look {w W : World} {B g cap n mb k : Nat} {D : DataW Unit} {tl : List Int} (h : LI w W B g cap n mb k D tl) {seen : M.Seen} (hs : SeenAt D seen) {bs : List Int} {al : Int} (ht : TextOk bs al) :
    ∃ c, (Instr.lookup 146 (.map (some mb)) (.agg #[.string (strOfNums bs), .int .i64 al]) true).run Try.prog W = .ok (.tuple #[.int .i64 c, .bool (M.look seen bs al).isSome]) W ∧ ∀ x, M.look seen bs al = some x → c = x := by
  obtain ⟨v, ps, hrun, hv⟩ := h.map.look_ok keyText Try.underlying146 (z := .int .i64 0) (by kernel_rfl) (plainElem_int Try.underlying3 (by decide)) ht.key
  obtain ⟨c, rfl, hc, _⟩ := plainElem_int_inv Try.underlying3 hv
  refine ⟨c, by rw [hs.has_ _ _ ht] at hrun; exact hrun, fun x hx => ?_⟩
  have h1 := congrArg Prod.fst hc
  simp only at h1
  rw [hs.at_ _ _ _ ht hx] at h1
  simp only [DataW.lit.injEq, Lit.int.injEq, true_and] at h1
  exact h1.symm

theorem LI.put {w W : World} {B g cap n mb k : Nat} {D : DataW Unit} {tl : List Int} (h : LI w W B g cap n mb k D tl) (hk : k < 1000) {bs : List Int} {al x : Int} (ht : TextOk bs al) (hx : (Lit.int .i64 x).wf = true) :
    ∃ W', (Instr.mapUpdate 146 (.map (some mb)) (.agg #[.string (strOfNums bs), .int .i64 al]) (.int .i64 x)).run Try.prog W = .ok () W' ∧ W.grownBy W' (some mb) ∧ LI w W' B g cap n mb (k + 1) (D.put (textL bs al) (.lit (.int .i64 x))) tl := by
  obtain ⟨W', hrun, hown, hg⟩ := h.map.update keyText Try.underlying146 (by unfold maxLen; omega) ht.key (plainElem_int (H := Unit) Try.underlying3 hx)
  exact ⟨W', hrun, hg, hown, h.row.kept hg (.inr (fun e => row_nomap h.row h.map (Option.some.inj e))), gb_new h.gb hg h.new, h.new⟩

theorem conv_bytes {W : World} {ab : Option Addr} {cb : Nat} {bs : List Int} (h : BytesAt W (.slice ab bs.length cb) bs) : (convert 40 9 (.slice ab bs.length cb)).run Try.prog W = .ok (.string (strOfNums bs)) W := by
  obtain ⟨a, c, e, hn, h1 | ⟨b, off, h1, h2⟩⟩ := h.1
  · cases e
    have : bs = [] := List.eq_nil_of_length_eq_zero (by omega)
    subst this
    exact run_convert_bytes_zero W _ 5 Try.underlying40 Try.underlying5 _ _ _ Try.underlying9
  · cases e
    subst h1
    refine run_convert_bytes_arg W _ 5 Try.underlying40 Try.underlying5 b off bs.length cb bs rfl (fun i hi => ?_) _ Try.underlying9
    have := h2 i 0 hi (by omega)
    simpa using this

end Go.Proofs.Ytebhbhbhcoijpaa
