/-
  The contracts of slices.Equal at bytes, of bytes.Equal, of obj.sameFrag.
-/
import Derived.Test.YtebhbhbhcoijpaaSame
import Derived.Test.YtebhbhbhcoijpaaSmall3
namespace Go.Proofs.Ytebhbhbhcoijpaa
open Go.RowKit Go.Shelf
set_option linter.unusedVariables false

set_option maxRecDepth 100000 in
theorem eqBytes_short (a1 a2 : Option Addr) (n c m d : Nat) (w : World) (hn : n ≤ maxLen) (hm : m ≤ maxLen) (h : ¬ n = m ∨ n = 0 ∧ m = 0) :
    Calls Try.prog 80 #[.slice a1 n c, .slice a2 m d] w fun e w' => e = .returned (.bool (decide (n = m))) ∧ w' = w := by
  unfold maxLen at hn hm
  rcases h with h | ⟨rfl, rfl⟩
  · have hne : (n != m) = true := by rw [bne_iff_ne]; exact h
    have hni : ¬ (n : Int) = (m : Int) := by omega
    have HX : Hid (decide (n = m) = false) := decide_eq_false h
    generalize decide (n = m) = R at *
    clear h
    go_enter Try.func80, Try.ntmps80
    go_wp2
    go_ret
    exact ⟨by rw [HX.out]; rfl, rfl⟩
  · go_enter Try.func80, Try.ntmps80
    go_wp2_with fail
    refine wp_loop_rounds 1 ?_
    rw [rounds_succ]
    go_wp2
    go_ret
    exact ⟨rfl, rfl⟩

theorem eqBytes_any (xs ys : List Int) (a1 a2 : Option Addr) (c d : Nat) (w : World) (h1 : BytesAt w (.slice a1 xs.length c) xs) (h2 : BytesAt w (.slice a2 ys.length d) ys) :
    Calls Try.prog 80 #[.slice a1 xs.length c, .slice a2 ys.length d] w fun e w' => e = .returned (.bool (M.allTwo (fun x y => x == y) xs ys)) ∧ Below w.heap.size w w' := by
  have hx : xs.length ≤ maxLen := by obtain ⟨_, _, _, h⟩ := h1.1.form; exact h
  have hy : ys.length ≤ maxLen := by obtain ⟨_, _, _, h⟩ := h2.1.form; exact h
  by_cases hsh : ¬ xs.length = ys.length ∨ xs.length = 0 ∧ ys.length = 0
  · refine (eqBytes_short a1 a2 _ c _ d w hx hy hsh).mono fun e w' ⟨he, hw⟩ => ⟨?_, by rw [hw]; exact Below.refl _ _⟩
    rw [he]
    congr 2
    rcases hsh with h | ⟨h, h'⟩
    · rw [decide_eq_false h, ← allTwo_eq, Lib.allEq_len _ _ _ h]
    · rw [List.eq_nil_of_length_eq_zero h, List.eq_nil_of_length_eq_zero h']; rfl
  · obtain ⟨b1, o1, rfl, hc1⟩ : ∃ b off, a1 = some ⟨b, off, none⟩ ∧ ∀ j i, j < xs.length → i < 1 → w.cell? ⟨b, off + j * 1 + i, none⟩ = some (.int .u8 (xs.getD j 0)) := h1.1.all (by omega)
    obtain ⟨b2, o2, rfl, hc2⟩ : ∃ b off, a2 = some ⟨b, off, none⟩ ∧ ∀ j i, j < ys.length → i < 1 → w.cell? ⟨b, off + j * 1 + i, none⟩ = some (.int .u8 (ys.getD j 0)) := h2.1.all (by omega)
    have key := AnyE.slices_Equal Try.eqByte (Value.int .u8) (fun x y => x == y) (NeqAt.int _ _ .u8) b1 o1 xs.length c b2 o2 ys.length d xs ys w (Nat.le_refl _) (Nat.le_refl _) hx hy
      (fun j hj => by
        have := hc1 j 0 hj (by decide)
        rw [Nat.mul_one, Nat.add_zero] at this
        rw [this]
        simp [List.getElem!_eq_getElem?_getD, List.getD_eq_getElem?_getD])
      (fun j hj => by
        have := hc2 j 0 hj (by decide)
        rw [Nat.mul_one, Nat.add_zero] at this
        rw [this]
        simp [List.getElem!_eq_getElem?_getD, List.getD_eq_getElem?_getD])
    rw [List.take_length, List.take_length, allTwo_eq] at key
    refine Calls.mono key fun e w' ⟨he, q, hw⟩ => ⟨he, ?_⟩
    rw [hw]
    exact below_drewN' _ _ _

theorem BytesAt.in {w : World} {xs : List Int} {a : Option Addr} {c : Nat} (h : BytesAt w (.slice a xs.length c) xs) : Lib.BytesIn w a xs.length xs := fun hn => by
  obtain ⟨b, off, rfl, hc⟩ := h.1.all hn
  refine ⟨b, off, rfl, fun i hi => ?_⟩
  have := hc i 0 hi (by decide)
  rwa [Nat.mul_one, Nat.add_zero] at this

theorem bytesOf_eq : ∀ xs ys : List Int, (∀ b ∈ xs, 0 ≤ b ∧ b < 256) → (∀ b ∈ ys, 0 ≤ b ∧ b < 256) → (Lib.bytesOf xs == Lib.bytesOf ys) = M.allTwo (fun x y => x == y) xs ys
  | [], [], _, _ => rfl
  | [], y :: ys, _, _ => rfl
  | x :: xs, [], _, _ => rfl
  | x :: xs, y :: ys, hx, hy => by
    have ih := bytesOf_eq xs ys (fun b hb => hx b (List.mem_cons_of_mem _ hb)) (fun b hb => hy b (List.mem_cons_of_mem _ hb))
    have h1 := hx x List.mem_cons_self
    have h2 := hy y List.mem_cons_self
    have e : (UInt8.ofNat x.toNat == UInt8.ofNat y.toNat) = (x == y) := by
      rw [Bool.eq_iff_iff]
      simp only [beq_iff_eq]
      constructor
      · intro h
        have := congrArg UInt8.toNat h
        simp at this
        omega
      · intro h
        rw [h]
    show ((UInt8.ofNat x.toNat :: Lib.bytesOf xs) == (UInt8.ofNat y.toNat :: Lib.bytesOf ys)) = _
    rw [List.cons_beq_cons, ih, e]
    rfl

set_option maxHeartbeats 1000000 in
set_option maxRecDepth 100000 in
theorem sameFrag_any (f g : M.Frg) (a1 a2 a3 a4 : Option Addr) (c1 c2 c3 c4 : Nat) (w : World) (h1 : BytesAt w (.slice a1 f.bytes.length c1) f.bytes) (h2 : RelsAt w (.slice a2 f.rels.length c2) f.rels)
    (h3 : BytesAt w (.slice a3 g.bytes.length c3) g.bytes) (h4 : RelsAt w (.slice a4 g.rels.length c4) g.rels) :
    Calls Try.prog 46 #[.agg #[.int .i64 f.sect, .int .i64 f.align, .string f.group, .slice a1 f.bytes.length c1, .int .i64 f.size, .slice a2 f.rels.length c2],
      .agg #[.int .i64 g.sect, .int .i64 g.align, .string g.group, .slice a3 g.bytes.length c3, .int .i64 g.size, .slice a4 g.rels.length c4]] w fun e w' =>
      e = .returned (.bool (M.sameFrg f g)) ∧ Below w.heap.size w w' := by
  have HB : Hid (∀ W, Below w.heap.size w W → Calls Try.prog 80 #[.slice a1 f.bytes.length c1, .slice a3 g.bytes.length c3] W fun e w' => e = .returned (.bool (M.allTwo (fun x y => x == y) f.bytes g.bytes)) ∧ Below W.heap.size W w') := fun W hW =>
    eqBytes_any _ _ a1 a3 c1 c3 W (h1.later hW) (h3.later hW)
  have HL : Hid (∀ W, Below w.heap.size w W → Calls Try.prog 81 #[.slice a2 f.rels.length c2, .slice a4 g.rels.length c4] W fun e w' => e = .returned (.bool (M.allTwo M.sameRel f.rels g.rels)) ∧ Below W.heap.size W w') := fun W hW =>
    eqRels_any _ _ a2 a4 c2 c4 W (h2.later hW) (h4.later hW)
  clear h1 h2 h3 h4
  obtain ⟨s, al, gr, bs, sz, rs⟩ := f
  obtain ⟨s', al', gr', bs', sz', rs'⟩ := g
  simp only at HB HL ⊢
  have hR : M.sameFrg ⟨s, al, gr, bs, sz, rs⟩ ⟨s', al', gr', bs', sz', rs'⟩ = (s == s' && al == al' && gr.toList == gr'.toList && sz == sz' && M.allTwo (fun x y => x == y) bs bs' && M.allTwo M.sameRel rs rs') := rfl
  generalize M.sameFrg ⟨s, al, gr, bs, sz, rs⟩ ⟨s', al', gr', bs', sz', rs'⟩ = R at *
  generalize M.allTwo (fun x y => x == y) bs bs' = rb at *
  generalize M.allTwo M.sameRel rs rs' = rr at *
  generalize bs.length = n1 at *
  generalize bs'.length = n2 at *
  generalize rs.length = n3 at *
  generalize rs'.length = n4 at *
  cases t1 : (s == s')
  · have HX : Hid (R = false) := by rw [Hid, hR]; simp [t1]
    clear hR HB HL
    go_enter Try.func46, Try.ntmps46
    go_wp2
    go_ret
    exact ⟨ret_bool HX.out.symm, ((Below.refl _ _).alloc (Nat.le_refl _) _).alloc (by simp) _⟩
  cases t2 : (al == al')
  · have HX : Hid (R = false) := by rw [Hid, hR]; simp [t2]
    clear hR HB HL
    go_enter Try.func46, Try.ntmps46
    go_wp2
    go_ret
    exact ⟨ret_bool HX.out.symm, ((Below.refl _ _).alloc (Nat.le_refl _) _).alloc (by simp) _⟩
  cases t3 : (gr.toList == gr'.toList)
  · have HX : Hid (R = false) := by rw [Hid, hR]; simp [t3]
    clear hR HB HL
    go_enter Try.func46, Try.ntmps46
    go_wp2
    go_ret
    exact ⟨ret_bool HX.out.symm, ((Below.refl _ _).alloc (Nat.le_refl _) _).alloc (by simp) _⟩
  cases t4 : (sz == sz')
  · have HX : Hid (R = false) := by rw [Hid, hR]; simp [t4]
    clear hR HB HL
    go_enter Try.func46, Try.ntmps46
    go_wp2
    go_ret
    exact ⟨ret_bool HX.out.symm, ((Below.refl _ _).alloc (Nat.le_refl _) _).alloc (by simp) _⟩
  have HX : Hid (R = (rb && rr)) := by rw [Hid, hR]; simp [t1, t2, t3, t4]
  clear hR
  cases rb
  · go_enter Try.func46, Try.ntmps46
    go_wp2_with (go_at_call 80; refine (HB.out _ (((Below.refl _ _).alloc (Nat.le_refl _) _).alloc (by simp) _)).mono ?_; rintro e w1 ⟨rfl, hb1⟩; obtain ⟨hc1, hf1⟩ := bcell hb1)
    go_ret
    exact ⟨ret_bool HX.out.symm, (((Below.refl _ _).alloc (Nat.le_refl _) _).alloc (by simp) _).trans (hb1.mono (by simp; omega))⟩
  · go_enter Try.func46, Try.ntmps46
    go_wp2_with (first | (go_at_call 80; refine (HB.out _ (((Below.refl _ _).alloc (Nat.le_refl _) _).alloc (by simp) _)).mono ?_; rintro e w1 ⟨rfl, hb1⟩; obtain ⟨hc1, hf1⟩ := bcell hb1) | (go_at_call 81; refine (HL.out _ ((((Below.refl _ _).alloc (Nat.le_refl _) _).alloc (by simp) _).trans (hb1.mono (by simp; omega)))).mono ?_; rintro e w2 ⟨rfl, hb2⟩))
    go_ret
    exact ⟨ret_bool HX.out.symm, (((Below.refl _ _).alloc (Nat.le_refl _) _).alloc (by simp) _).trans ((hb1.trans (hb2.mono hb1.size)).mono (by simp; omega))⟩

end Go.Proofs.Ytebhbhbhcoijpaa
