/-
  What the reach of a row says of a part: it can be copied.
-/
import Derived.Test.YtcphlcoiicncpaaDoorOpen
import Derived.Test.YtcphlcoiicncpaaDoorRefMem
import Derived.SizedLaws
namespace Go.Proofs.YtcphlcoiicncpaaDoor
open Go.ChangeShapes Go.WideShapes Go.RowKit Go.Deep
set_option linter.unusedVariables false

section
variable {H : Type} {enc : TypeId × Value → H} {w : World} {base : Nat} {spare : Nat → Bool} {held : Bool}

theorem weights_all {e : TypeId} {d : DataW H} : ∀ {l : List (DataW H)}, d ∈ l → ∀ m ∈ d.weights Tryd.prog e, m ∈ DataW.weightsAll Tryd.prog e l
  | x :: l, hd, m, hm => by
    simp only [DataW.weightsAll, List.mem_append]
    rcases List.mem_cons.1 hd with rfl | hd
    · exact .inl hm
    · exact .inr (weights_all hd m hm)

/-- a slice that is read within a reach: its length, and its elements -/
theorem slice_weight {t e : TypeId} {fuel n c B : Nat} {a : Option Addr} {x : DataW H × List MemPlace} (ht : Tryd.prog.underlying t = some (.slice e)) (h : DataW.trod enc Tryd.prog w base spare held fuel t [.slice a n c] = some x) (hB : ∀ m ∈ x.1.weights Tryd.prog t, m ≤ B) :
    n * Tryd.prog.bytesOf e ≤ B ∧ ∀ i, i < n → ∃ a' cs' k y, a = some a' ∧ w.cells? base (a'.add (i * Tryd.prog.cellsOf e)) (Tryd.prog.cellsOf e) = some cs' ∧ DataW.trod enc Tryd.prog w base spare held k e cs' = some y ∧ ∀ m ∈ y.1.weights Tryd.prog e, m ≤ B := by
  rcases open_slice ht h with ⟨hc, _⟩ | ⟨a', len, cap, m, k, D, Pl, hc, hb, hl, hm, hmm, rfl, hx⟩
  · cases hc
    exact ⟨by simp, fun i hi => absurd hi (Nat.not_lt_zero _)⟩
  · cases hc
    have hlm : n ≤ m := by rw [hmm]; split <;> omega
    simp only [DataW.weights, ht] at hB
    refine ⟨?_, fun i hi => ?_⟩
    · have := hB _ (List.mem_cons_self ..)
      rw [List.length_map, List.length_range] at this
      exact Nat.le_trans (Nat.mul_le_mul_right _ (Nat.le_add_right _ _)) this
    · obtain ⟨cs', h1, h2⟩ := hx i (by omega)
      refine ⟨a', cs', k, _, rfl, h1, h2, fun u hu => hB u (List.mem_cons_of_mem _ (List.mem_append_left _ (weights_all (d := D i) ?_ u hu)))⟩
      exact List.mem_map.2 ⟨i, List.mem_range.2 hi, rfl⟩

theorem bFrag : Tryd.prog.bytesOf 39 = 88 := by kernel_rfl
theorem bDef : Tryd.prog.bytesOf 52 = 56 := by kernel_rfl
theorem bRel : Tryd.prog.bytesOf 58 = 48 := by kernel_rfl
theorem bByte : Tryd.prog.bytesOf 5 = 1 := by kernel_rfl

set_option maxRecDepth 100000 in
theorem frag_weight {k B : Nat} {cs : List Value} {y : DataW H × List MemPlace} {a3 a5 : Option Addr} {n3 n5 c3 c5 : Nat} (h : DataW.trod enc Tryd.prog w base spare held k 39 cs = some y) (e3 : cs.getD 3 undef = .slice a3 n3 c3) (e5 : cs.getD 5 undef = .slice a5 n5 c5) (hB : ∀ m ∈ y.1.weights Tryd.prog 39, m ≤ B) :
    n3 ≤ B ∧ n5 * 48 ≤ B := by
  obtain ⟨xs, m, _, rfl, hl, hlen, hf⟩ := DataW.trod_struct Tryd.underlying39 h
  rw [kFrag] at hl
  match cs, hl with
  | [g0, g1, g2, g3, g4, g5], _ =>
    match xs, hlen with
    | [y0, y1, y2, y3, y4, y5], _ =>
      have h3 := hf 3 _ rfl
      have h5 := hf 5 _ rfl
      simp [kBytes, kRels] at h3 h5
      obtain rfl : g3 = .slice a3 n3 c3 := e3
      obtain rfl : g5 = .slice a5 n5 c5 := e5
      simp only [DataW.weights, Tryd.underlying39, List.map_cons, List.map_nil, DataW.weightsEach] at hB
      have w3 := (slice_weight Tryd.underlying36 h3 (B := B) (fun u hu => hB u (by simp [hu]))).1
      have w5 := (slice_weight Tryd.underlying37 h5 (B := B) (fun u hu => hB u (by simp [hu]))).1
      rw [bByte] at w3
      rw [bRel] at w5
      exact ⟨by omega, w5⟩

theorem frags_weight {fuel c B : Nat} {a : Option Addr} {fs : List M.Frg} {x : DataW H × List MemPlace} (h : DataW.trod enc Tryd.prog w base spare held fuel 22 [.slice a fs.length c] = some x) (hF : FragsAt w (.slice a fs.length c) fs) (hB : ∀ m ∈ x.1.weights Tryd.prog 22, m ≤ B) :
    fs.length * 88 ≤ B ∧ ∀ f ∈ fs, f.bytes.length ≤ B ∧ f.rels.length * 48 ≤ B := by
  obtain ⟨h1, h2⟩ := slice_weight Tryd.underlying22 h hB
  rw [bFrag] at h1
  refine ⟨h1, fun f hf => ?_⟩
  obtain ⟨j, hj, rfl⟩ := List.getElem_of_mem hf
  obtain ⟨cell, hs, hfr⟩ := hF
  have hq := hfr j hj
  rw [List.getD_eq_getElem?_getD, List.getElem?_eq_getElem hj] at hq
  obtain ⟨a', cs', k, y, rfl, g1, g2, g3⟩ := h2 j hj
  rw [kFrag] at g1
  obtain ⟨_, _, hsv, _, hs0 | ⟨b, off, hsa, hs1⟩⟩ := hs
  · omega
  cases hsv
  cases hsa
  have hcs := World.cells?_some g1
  have key : ∀ i, i < 6 → cs'.getD i undef = cell j i := fun i hi => by
    have u1 := hcs.2.2 i hi
    rw [add_plain, add_plain, hs1 j i hj hi] at u1
    rw [List.getD_eq_getElem?_getD, ← u1]; rfl
  obtain ⟨a3, c3, z3, _⟩ := hq.bytes.1.form
  obtain ⟨a5, c5, z5, _⟩ := hq.rels.1.form
  exact frag_weight g2 ((key 3 (by decide)).trans z3) ((key 5 (by decide)).trans z5) g3

theorem defs_weight {fuel n c B : Nat} {a : Option Addr} {x : DataW H × List MemPlace} (h : DataW.trod enc Tryd.prog w base spare held fuel 23 [.slice a n c] = some x) (hB : ∀ m ∈ x.1.weights Tryd.prog 23, m ≤ B) : n * 56 ≤ B := by
  have := (slice_weight Tryd.underlying23 h hB).1
  rwa [bDef] at this

/-- a part that is read within the reach can be copied -/
theorem room_reach {f1 f2 c1 c2 : Nat} {a1 a2 : Option Addr} {p : M.Prt} {x1 x2 : DataW H × List MemPlace} (h1 : DataW.trod enc Tryd.prog w base spare held f1 22 [.slice a1 p.frags.length c1] = some x1) (hF : FragsAt w (.slice a1 p.frags.length c1) p.frags)
    (h2 : DataW.trod enc Tryd.prog w base spare held f2 23 [.slice a2 p.defs.length c2] = some x2) (hB1 : ∀ m ∈ x1.1.weights Tryd.prog 22, m ≤ reachBytes) (hB2 : ∀ m ∈ x2.1.weights Tryd.prog 23, m ≤ reachBytes) : Room p := by
  obtain ⟨u1, u2⟩ := frags_weight h1 hF hB1
  have u3 := defs_weight h2 hB2
  unfold reachBytes at u1 u2 u3
  exact ⟨by omega, by omega, fun f hf => by have := (u2 f hf).1; omega, fun f hf => by have := (u2 f hf).2; omega⟩
end

end Go.Proofs.YtcphlcoiicncpaaDoor
