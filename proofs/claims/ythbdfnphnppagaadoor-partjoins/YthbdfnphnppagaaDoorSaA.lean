/-
  The contracts of slices.Equal at bytes, of bytes.Equal, of obj.sameFrag. The contracts of slices.EqualFunc at fragments, of obj.Same. The contract of the reference's SamePart.
-/
import Derived.Test.YthbdfnphnppagaaDoorSame
import Derived.Test.YthbdfnphnppagaaDoorSmall3
import Derived.Test.YthbdfnphnppagaaDoorCheck

namespace Go.Proofs.YthbdfnphnppagaaDoor
open Go.RowKit Go.Shelf
set_option linter.unusedVariables false

set_option maxRecDepth 100000 in
theorem eqBytes_short (a1 a2 : Option Addr) (n c m d : Nat) (w : World) (hn : n ≤ maxLen) (hm : m ≤ maxLen) (h : ¬ n = m ∨ n = 0 ∧ m = 0) :
    Calls Tryd.prog 72 #[.slice a1 n c, .slice a2 m d] w fun e w' => e = .returned (.bool (decide (n = m))) ∧ w' = w := by
  unfold maxLen at hn hm
  rcases h with h | ⟨rfl, rfl⟩
  · have hne : (n != m) = true := by rw [bne_iff_ne]; exact h
    have hni : ¬ (n : Int) = (m : Int) := by omega
    have HX : Hid (decide (n = m) = false) := decide_eq_false h
    generalize decide (n = m) = R at *
    clear h
    go_enter Tryd.func72, Tryd.ntmps72
    go_wp2
    go_ret
    exact ⟨by rw [HX.out]; rfl, rfl⟩
  · go_enter Tryd.func72, Tryd.ntmps72
    go_wp2_with fail
    refine wp_loop_rounds 1 ?_
    rw [rounds_succ]
    go_wp2
    go_ret
    exact ⟨rfl, rfl⟩

theorem eqBytes_any (xs ys : List Int) (a1 a2 : Option Addr) (c d : Nat) (w : World) (h1 : BytesAt w (.slice a1 xs.length c) xs) (h2 : BytesAt w (.slice a2 ys.length d) ys) :
    Calls Tryd.prog 72 #[.slice a1 xs.length c, .slice a2 ys.length d] w fun e w' => e = .returned (.bool (M.allTwo (fun x y => x == y) xs ys)) ∧ Below w.heap.size w w' := by
  have hx : xs.length ≤ maxLen := by obtain ⟨_, _, _, h⟩ := h1.1.form; exact h
  have hy : ys.length ≤ maxLen := by obtain ⟨_, _, _, h⟩ := h2.1.form; exact h
  by_cases hsh : ¬ xs.length = ys.length ∨ xs.length = 0 ∧ ys.length = 0
  · refine (eqBytes_short a1 a2 _ c _ d w hx hy hsh).mono fun e w' ⟨he, hw⟩ => ⟨?_, by rw [hw]; exact Below.refl _ _⟩
    rw [he]
    congr 2
    rcases hsh with h | ⟨h, h'⟩
    · rw [decide_eq_false h, ← allTwo_eq, Lib.allEq_len _ _ _ h]
    · rw [List.eq_nil_of_length_eq_zero h, List.eq_nil_of_length_eq_zero h']; rfl
  · obtain ⟨b1, o1, rfl, hc1⟩ : ∃ b off, a1 = some ⟨b, off, none⟩ ∧ ∀ j i, j < xs.length → i < 1 → w.cell? ⟨b, off + j * 1 + i, none⟩ = some (.int .u8 (xs.getD j 0)) := h1.1.all (by omega)
    obtain ⟨b2, o2, rfl, hc2⟩ : ∃ b off, a2 = some ⟨b, off, none⟩ ∧ ∀ j i, j < ys.length → i < 1 → w.cell? ⟨b, off + j * 1 + i, none⟩ = some (.int .u8 (ys.getD j 0)) := h2.1.all (by omega)
    have key := AnyE.slices_Equal Tryd.eqByte (Value.int .u8) (fun x y => x == y) (NeqAt.int _ _ .u8) b1 o1 xs.length c b2 o2 ys.length d xs ys w (Nat.le_refl _) (Nat.le_refl _) hx hy
      (fun j hj => by
        have := hc1 j 0 hj (by decide)
        rw [Nat.mul_one, Nat.add_zero] at this
        rw [this]
        simp [List.getElem!_eq_getElem?_getD, List.getD_eq_getElem?_getD])
      (fun j hj => by
        have := hc2 j 0 hj (by decide)
        rw [Nat.mul_one, Nat.add_zero] at this
        rw [this]
        simp [List.getElem!_eq_getElem?_getD, List.getD_eq_getElem?_getD])
    rw [List.take_length, List.take_length, allTwo_eq] at key
    refine Calls.mono key fun e w' ⟨he, q, hw⟩ => ⟨he, ?_⟩
    rw [hw]
    exact below_drewN' _ _ _

theorem BytesAt.in {w : World} {xs : List Int} {a : Option Addr} {c : Nat} (h : BytesAt w (.slice a xs.length c) xs) : Lib.BytesIn w a xs.length xs := fun hn => by
  obtain ⟨b, off, rfl, hc⟩ := h.1.all hn
  refine ⟨b, off, rfl, fun i hi => ?_⟩
  have := hc i 0 hi (by decide)
  rwa [Nat.mul_one, Nat.add_zero] at this

theorem bytesOf_eq : ∀ xs ys : List Int, (∀ b ∈ xs, 0 ≤ b ∧ b < 256) → (∀ b ∈ ys, 0 ≤ b ∧ b < 256) → (Lib.bytesOf xs == Lib.bytesOf ys) = M.allTwo (fun x y => x == y) xs ys
  | [], [], _, _ => rfl
  | [], y :: ys, _, _ => rfl
  | x :: xs, [], _, _ => rfl
  | x :: xs, y :: ys, hx, hy => by
    have ih := bytesOf_eq xs ys (fun b hb => hx b (List.mem_cons_of_mem _ hb)) (fun b hb => hy b (List.mem_cons_of_mem _ hb))
    have h1 := hx x List.mem_cons_self
    have h2 := hy y List.mem_cons_self
    have e : (UInt8.ofNat x.toNat == UInt8.ofNat y.toNat) = (x == y) := by
      rw [Bool.eq_iff_iff]
      simp only [beq_iff_eq]
      constructor
      · intro h
        have := congrArg UInt8.toNat h
        simp at this
        omega
      · intro h
        rw [h]
    show ((UInt8.ofNat x.toNat :: Lib.bytesOf xs) == (UInt8.ofNat y.toNat :: Lib.bytesOf ys)) = _
    rw [List.cons_beq_cons, ih, e]
    rfl

theorem bytesEqual_any (xs ys : List Int) (a1 a2 : Option Addr) (c d : Nat) (w : World) (h1 : BytesAt w (.slice a1 xs.length c) xs) (h2 : BytesAt w (.slice a2 ys.length d) ys) :
    Calls Tryd.prog 48 #[.slice a1 xs.length c, .slice a2 ys.length d] w fun e w' => e = .returned (.bool (M.allTwo (fun x y => x == y) xs ys)) ∧ w' = w := by
  rw [← bytesOf_eq xs ys h1.2 h2.2]
  exact Any.bytes_Equal_all Tryd.laysnb115 a1 a2 xs.length c ys.length d xs ys w rfl rfl h1.in h2.in

set_option maxHeartbeats 1000000 in
set_option maxRecDepth 100000 in
theorem sameFrag_any (f g : M.Frg) (a1 a2 a3 a4 : Option Addr) (c1 c2 c3 c4 : Nat) (w : World) (h1 : BytesAt w (.slice a1 f.bytes.length c1) f.bytes) (h2 : RelsAt w (.slice a2 f.rels.length c2) f.rels)
    (h3 : BytesAt w (.slice a3 g.bytes.length c3) g.bytes) (h4 : RelsAt w (.slice a4 g.rels.length c4) g.rels) :
    Calls Tryd.prog 46 #[.agg #[.int .i64 f.sect, .int .i64 f.align, .string f.group, .slice a1 f.bytes.length c1, .int .i64 f.size, .slice a2 f.rels.length c2],
      .agg #[.int .i64 g.sect, .int .i64 g.align, .string g.group, .slice a3 g.bytes.length c3, .int .i64 g.size, .slice a4 g.rels.length c4]] w fun e w' =>
      e = .returned (.bool (M.sameFrg f g)) ∧ Below w.heap.size w w' := by
  have HB : Hid (∀ W, Below w.heap.size w W → Calls Tryd.prog 72 #[.slice a1 f.bytes.length c1, .slice a3 g.bytes.length c3] W fun e w' => e = .returned (.bool (M.allTwo (fun x y => x == y) f.bytes g.bytes)) ∧ Below W.heap.size W w') := fun W hW =>
    eqBytes_any _ _ a1 a3 c1 c3 W (h1.later hW) (h3.later hW)
  have HL : Hid (∀ W, Below w.heap.size w W → Calls Tryd.prog 49 #[.slice a2 f.rels.length c2, .slice a4 g.rels.length c4] W fun e w' => e = .returned (.bool (M.allTwo M.sameRel f.rels g.rels)) ∧ Below W.heap.size W w') := fun W hW =>
    eqRels_any _ _ a2 a4 c2 c4 W (h2.later hW) (h4.later hW)
  clear h1 h2 h3 h4
  obtain ⟨s, al, gr, bs, sz, rs⟩ := f
  obtain ⟨s', al', gr', bs', sz', rs'⟩ := g
  simp only at HB HL ⊢
  have hR : M.sameFrg ⟨s, al, gr, bs, sz, rs⟩ ⟨s', al', gr', bs', sz', rs'⟩ = (s == s' && al == al' && gr.toList == gr'.toList && sz == sz' && M.allTwo (fun x y => x == y) bs bs' && M.allTwo M.sameRel rs rs') := rfl
  generalize M.sameFrg ⟨s, al, gr, bs, sz, rs⟩ ⟨s', al', gr', bs', sz', rs'⟩ = R at *
  generalize M.allTwo (fun x y => x == y) bs bs' = rb at *
  generalize M.allTwo M.sameRel rs rs' = rr at *
  generalize bs.length = n1 at *
  generalize bs'.length = n2 at *
  generalize rs.length = n3 at *
  generalize rs'.length = n4 at *
  cases t1 : (s == s')
  · have HX : Hid (R = false) := by rw [Hid, hR]; simp [t1]
    clear hR HB HL
    go_enter Tryd.func46, Tryd.ntmps46
    go_wp2
    go_ret
    exact ⟨ret_bool HX.out.symm, ((Below.refl _ _).alloc (Nat.le_refl _) _).alloc (by simp) _⟩
  cases t2 : (al == al')
  · have HX : Hid (R = false) := by rw [Hid, hR]; simp [t2]
    clear hR HB HL
    go_enter Tryd.func46, Tryd.ntmps46
    go_wp2
    go_ret
    exact ⟨ret_bool HX.out.symm, ((Below.refl _ _).alloc (Nat.le_refl _) _).alloc (by simp) _⟩
  cases t3 : (gr.toList == gr'.toList)
  · have HX : Hid (R = false) := by rw [Hid, hR]; simp [t3]
    clear hR HB HL
    go_enter Tryd.func46, Tryd.ntmps46
    go_wp2
    go_ret
    exact ⟨ret_bool HX.out.symm, ((Below.refl _ _).alloc (Nat.le_refl _) _).alloc (by simp) _⟩
  cases t4 : (sz == sz')
  · have HX : Hid (R = false) := by rw [Hid, hR]; simp [t4]
    clear hR HB HL
    go_enter Tryd.func46, Tryd.ntmps46
    go_wp2
    go_ret
    exact ⟨ret_bool HX.out.symm, ((Below.refl _ _).alloc (Nat.le_refl _) _).alloc (by simp) _⟩
  have HX : Hid (R = (rb && rr)) := by rw [Hid, hR]; simp [t1, t2, t3, t4]
  clear hR
  cases rb
  · go_enter Tryd.func46, Tryd.ntmps46
    go_wp2_with (go_at_call 72; refine (HB.out _ (((Below.refl _ _).alloc (Nat.le_refl _) _).alloc (by simp) _)).mono ?_; rintro e w1 ⟨rfl, hb1⟩; obtain ⟨hc1, hf1⟩ := bcell hb1)
    go_ret
    exact ⟨ret_bool HX.out.symm, (((Below.refl _ _).alloc (Nat.le_refl _) _).alloc (by simp) _).trans (hb1.mono (by simp; omega))⟩
  · go_enter Tryd.func46, Tryd.ntmps46
    go_wp2_with (first | (go_at_call 72; refine (HB.out _ (((Below.refl _ _).alloc (Nat.le_refl _) _).alloc (by simp) _)).mono ?_; rintro e w1 ⟨rfl, hb1⟩; obtain ⟨hc1, hf1⟩ := bcell hb1) | (go_at_call 49; refine (HL.out _ ((((Below.refl _ _).alloc (Nat.le_refl _) _).alloc (by simp) _).trans (hb1.mono (by simp; omega)))).mono ?_; rintro e w2 ⟨rfl, hb2⟩))
    go_ret
    exact ⟨ret_bool HX.out.symm, (((Below.refl _ _).alloc (Nat.le_refl _) _).alloc (by simp) _).trans ((hb1.trans (hb2.mono hb1.size)).mono (by simp; omega))⟩

end Go.Proofs.YthbdfnphnppagaaDoor

namespace Go.Proofs.YthbdfnphnppagaaDoor
open Go.RowKit Go.Shelf
set_option linter.unusedVariables false

theorem allTwo_len {α : Type} (eq : α → α → Bool) (xs ys : List α) (h : ¬ xs.length = ys.length) : M.allTwo eq xs ys = false := by
  rw [← allTwo_eq, Lib.allEq_len _ _ _ h]

theorem frgs_step {xs ys : List M.Frg} {k : Nat} (hx : k < xs.length) (hy : k < ys.length) :
    M.allTwo M.sameFrg (xs.drop k) (ys.drop k) = (M.sameFrg (xs.getD k frg0) (ys.getD k frg0) && M.allTwo M.sameFrg (xs.drop (k + 1)) (ys.drop (k + 1))) := by
  rw [drop_getD xs frg0 k hx, drop_getD ys frg0 k hy]; rfl

set_option maxHeartbeats 2000000 in
set_option maxRecDepth 100000 in
theorem eqFunc_any (xs ys : List M.Frg) (a1 a2 : Option Addr) (c1 c2 : Nat) (w : World) (h1 : FragsAt w (.slice a1 xs.length c1) xs) (h2 : FragsAt w (.slice a2 ys.length c2) ys) :
    Calls Tryd.prog 45 #[.slice a1 xs.length c1, .slice a2 ys.length c2, .func (.func 46) #[] #[]] w fun e w' =>
      e = .returned (.bool (M.allTwo M.sameFrg xs ys)) ∧ Below w.heap.size w w' := by
  have hx : xs.length ≤ maxLen := by obtain ⟨cell, hs, _⟩ := h1; obtain ⟨_, _, _, h⟩ := hs.form; exact h
  have hy : ys.length ≤ maxLen := by obtain ⟨cell, hs, _⟩ := h2; obtain ⟨_, _, _, h⟩ := hs.form; exact h
  unfold maxLen at hx hy
  by_cases hlen : xs.length = ys.length
  · have HX : Hid (M.allTwo M.sameFrg xs ys = M.allTwo M.sameFrg (xs.drop 0) (ys.drop 0)) := rfl
    generalize M.allTwo M.sameFrg xs ys = R at *
    have HL : Hid (ys.length = xs.length) := hlen.symm
    rw [← hlen] at h2 hy ⊢
    clear hlen
    go_enter Tryd.func45, Tryd.ntmps45
    go_wp2_with fail
    go_loopw [17] (fun s17 wr => ∃ (k : Nat), k ≤ xs.length ∧ s17 = .int .i64 k ∧ Hid (Below w.heap.size w wr) ∧ Hid (R = M.allTwo M.sameFrg (xs.drop k) (ys.drop k))) (fun s17 _ => xs.length - (intOf s17).toNat)
    case atStart => exact ⟨0, Nat.zero_le _, rfl, Below.refl _ _, HX⟩
    case round =>
      obtain ⟨k, hk, rfl, HB, HR⟩ := hrel
      clear HX
      by_cases hlt : k < xs.length
      · have hbw := HB.out
        have hky : k < ys.length := by rw [HL.out]; exact hlt
        obtain ⟨b, off, ab, cb, ar, cr, har, e0, e1, e2, e3, e4, e5, hBy, hRl, hg, hbl⟩ := (h1.later hbw).cells k hlt
        obtain ⟨b', off', ab', cb', ar', cr', har', e0', e1', e2', e3', e4', e5', hBy', hRl', hg', hbl'⟩ := (show FragsAt wr (.slice a2 ys.length c2) ys by rw [HL.out]; exact h2.later hbw).cells k hky
        have HR1 := HR.out
        rw [frgs_step hlt hky] at HR1
        clear HR h1 h2 hg hbl hg' hbl'
        generalize xs.getD k frg0 = f at *
        generalize ys.getD k frg0 = g at *
        have HS : Hid (∀ W, Below wr.heap.size wr W → Calls Tryd.prog 46 #[.agg #[.int .i64 f.sect, .int .i64 f.align, .string f.group, .slice ab f.bytes.length cb, .int .i64 f.size, .slice ar f.rels.length cr],
            .agg #[.int .i64 g.sect, .int .i64 g.align, .string g.group, .slice ab' g.bytes.length cb', .int .i64 g.size, .slice ar' g.rels.length cr']] W fun e w' => e = .returned (.bool (M.sameFrg f g)) ∧ Below W.heap.size W w') := fun W hW =>
          sameFrag_any f g ab ar ab' ar' cb cr cb' cr' W (hBy.later hW) (hRl.later hW) (hBy'.later hW) (hRl'.later hW)
        clear hBy hRl hBy' hRl'
        generalize M.sameFrg f g = sf at *
        obtain ⟨s, al, gr, bs, sz, rs⟩ := f
        obtain ⟨s', al', gr', bs', sz', rs'⟩ := g
        simp only at e0 e1 e2 e3 e4 e5 e0' e1' e2' e3' e4' e5' HS
        generalize bs.length = n1 at *
        generalize bs'.length = n2 at *
        generalize rs.length = n3 at *
        generalize rs'.length = n4 at *
        have hbr : b < wr.heap.size := World.block_lt_of_cell? _ _ e0
        have hbr' : b' < wr.heap.size := World.block_lt_of_cell? _ _ e0'
        subst har
        subst har'
        cases sf
        · have HR2 : Hid (R = false) := HR1
          clear HR1
          go_wp2_with (go_at_call 46; refine (HS.out _ (((Below.refl _ _).alloc (Nat.le_refl _) _).alloc (by simp) _)).mono ?_; rintro e w2 ⟨rfl, hb2⟩)
          go_ret
          exact ⟨ret_bool HR2.out.symm, hbw.trans ((((Below.refl _ _).alloc (Nat.le_refl _) _).alloc (by simp) _).trans (hb2.mono (by simp; omega)) |>.mono hbw.size)⟩
        · have HR2 : Hid (R = M.allTwo M.sameFrg (xs.drop (k + 1)) (ys.drop (k + 1))) := HR1
          clear HR1
          go_wp2_with (go_at_call 46; refine (HS.out _ (((Below.refl _ _).alloc (Nat.le_refl _) _).alloc (by simp) _)).mono ?_; rintro e w2 ⟨rfl, hb2⟩)
          go_roundw
          case rel => exact ⟨k + 1, by omega, by go_num, hbw.trans ((((Below.refl _ _).alloc (Nat.le_refl _) _).alloc (by simp) _).trans (hb2.mono (by simp; omega)) |>.mono hbw.size), HR2⟩
          case measure => simp [intOf]; omega
      · have HR0 : Hid (R = true) := by
          have := HR.out
          have h1' : xs.length ≤ k := by omega
          have h2' : ys.length ≤ k := by rw [HL.out]; omega
          rw [List.drop_of_length_le h1', List.drop_of_length_le h2'] at this
          exact this
        clear HR
        go_wp2
        go_ret
        exact ⟨ret_bool HR0.out.symm, HB.out⟩
  · have HX : Hid (M.allTwo M.sameFrg xs ys = false) := allTwo_len _ _ _ hlen
    generalize M.allTwo M.sameFrg xs ys = R at *
    clear h1 h2
    generalize xs.length = n at *
    generalize ys.length = m at *
    have hne : (n != m) = true := by rw [bne_iff_ne]; exact hlen
    have hni : ¬ (n : Int) = (m : Int) := by omega
    clear hlen
    go_enter Tryd.func45, Tryd.ntmps45
    go_wp2
    go_ret
    exact ⟨ret_bool HX.out.symm, Below.refl _ _⟩

set_option maxHeartbeats 1000000 in
set_option maxRecDepth 100000 in
theorem same_any (fs fs' : List M.Frg) (ds ds' : List M.Dfn) (a1 a2 a3 a4 : Option Addr) (c1 c2 c3 c4 : Nat) (w : World) (h1 : FragsAt w (.slice a1 fs.length c1) fs) (h2 : DefsAt w (.slice a2 ds.length c2) ds)
    (h3 : FragsAt w (.slice a3 fs'.length c3) fs') (h4 : DefsAt w (.slice a4 ds'.length c4) ds') :
    Calls Tryd.prog 10 #[.agg #[.slice a1 fs.length c1, .slice a2 ds.length c2], .agg #[.slice a3 fs'.length c3, .slice a4 ds'.length c4]] w fun e w' =>
      e = .returned (.bool (M.samePart ⟨fs, ds⟩ ⟨fs', ds'⟩)) ∧ Below w.heap.size w w' := by
  have HF : Hid (∀ W, Below w.heap.size w W → Calls Tryd.prog 45 #[.slice a1 fs.length c1, .slice a3 fs'.length c3, .func (.func 46) #[] #[]] W fun e w' =>
      e = .returned (.bool (M.allTwo M.sameFrg fs fs')) ∧ Below W.heap.size W w') := fun W hW => eqFunc_any fs fs' a1 a3 c1 c3 W (h1.later hW) (h3.later hW)
  have HD : Hid (∀ W, Below w.heap.size w W → Calls Tryd.prog 47 #[.slice a2 ds.length c2, .slice a4 ds'.length c4] W fun e w' =>
      e = .returned (.bool (M.allTwo M.sameDfn ds ds')) ∧ Below W.heap.size W w') := fun W hW => eqDefs_any ds ds' a2 a4 c2 c4 W (h2.later hW) (h4.later hW)
  have HX : Hid (M.samePart ⟨fs, ds⟩ ⟨fs', ds'⟩ = (M.allTwo M.sameFrg fs fs' && M.allTwo M.sameDfn ds ds')) := rfl
  clear h1 h2 h3 h4
  generalize M.samePart ⟨fs, ds⟩ ⟨fs', ds'⟩ = R at *
  generalize M.allTwo M.sameFrg fs fs' = r1 at *
  generalize M.allTwo M.sameDfn ds ds' = r2 at *
  generalize fs.length = n1 at *
  generalize fs'.length = n2 at *
  generalize ds.length = n3 at *
  generalize ds'.length = n4 at *
  cases r1
  · go_enter Tryd.func10, Tryd.ntmps10
    go_wp2_with (go_at_call 45; refine (HF.out _ (((Below.refl _ _).alloc (Nat.le_refl _) _).alloc (by simp) _)).mono ?_; rintro e w1 ⟨rfl, hb1⟩; obtain ⟨hc1, hf1⟩ := bcell hb1)
    go_ret
    exact ⟨ret_bool HX.out.symm, (((Below.refl _ _).alloc (Nat.le_refl _) _).alloc (by simp) _).trans (hb1.mono (by simp; omega))⟩
  · go_enter Tryd.func10, Tryd.ntmps10
    go_wp2_with (first | (go_at_call 45; refine (HF.out _ (((Below.refl _ _).alloc (Nat.le_refl _) _).alloc (by simp) _)).mono ?_; rintro e w1 ⟨rfl, hb1⟩; obtain ⟨hc1, hf1⟩ := bcell hb1) | (go_at_call 47; refine (HD.out _ ((((Below.refl _ _).alloc (Nat.le_refl _) _).alloc (by simp) _).trans (hb1.mono (by simp; omega)))).mono ?_; rintro e w2 ⟨rfl, hb2⟩))
    go_ret
    exact ⟨ret_bool HX.out.symm, (((Below.refl _ _).alloc (Nat.le_refl _) _).alloc (by simp) _).trans ((hb1.trans (hb2.mono hb1.size)).mono (by simp; omega))⟩

end Go.Proofs.YthbdfnphnppagaaDoor

namespace Go.Proofs.YthbdfnphnppagaaDoor
open Go.RowKit Go.Shelf
set_option linter.unusedVariables false

theorem later_new2a {wr w3 : World} {c c' : Array Value} {t t' : TypeId} (hb : Below ((wr.alloc (.cells c t)).alloc (.cells c' t')).heap.size ((wr.alloc (.cells c t)).alloc (.cells c' t')) w3) (i : Nat) (v : Value) (h : c[i]? = some v) : w3.cell? ⟨wr.heap.size, i, none⟩ = some v :=
  cell_later hb ((World.cell?_alloc_past _ _ _ (by simp)).trans ((World.cell?_alloc_at _ _ _ _ rfl).trans h))

theorem later_new2b {wr w3 : World} {c c' : Array Value} {t t' : TypeId} (hb : Below ((wr.alloc (.cells c t)).alloc (.cells c' t')).heap.size ((wr.alloc (.cells c t)).alloc (.cells c' t')) w3) (i : Nat) (v : Value) (h : c'[i]? = some v) : w3.cell? ⟨wr.heap.size + 1, i, none⟩ = some v :=
  cell_later hb ((World.cell?_alloc_at _ _ _ _ (by simp)).trans h)

theorem bne_beq {x y : Int} {b : Bool} (h : (x == y) = b) : (x != y) = !b := by rw [← h]; rfl
theorem bne_beqS {x y : List UInt8} {b : Bool} (h : (x == y) = b) : (x != y) = !b := by rw [← h]; rfl

set_option maxHeartbeats 4000000 in
set_option maxRecDepth 100000 in
theorem rsame_any (fs fs' : List M.Frg) (ds ds' : List M.Dfn) (a1 a2 a3 a4 : Option Addr) (c1 c2 c3 c4 : Nat) (w : World) (h1 : FragsAt w (.slice a1 fs.length c1) fs) (h2 : DefsAt w (.slice a2 ds.length c2) ds)
    (h3 : FragsAt w (.slice a3 fs'.length c3) fs') (h4 : DefsAt w (.slice a4 ds'.length c4) ds') :
    Calls Tryd.prog 11 #[.agg #[.slice a1 fs.length c1, .slice a2 ds.length c2], .agg #[.slice a3 fs'.length c3, .slice a4 ds'.length c4]] w fun e w' =>
      e = .returned (.bool (M.samePart ⟨fs, ds⟩ ⟨fs', ds'⟩)) ∧ Below w.heap.size w w' := by
  have hx : fs.length ≤ maxLen := by obtain ⟨cell, hs, _⟩ := h1; obtain ⟨_, _, _, h⟩ := hs.form; exact h
  have hy : fs'.length ≤ maxLen := by obtain ⟨cell, hs, _⟩ := h3; obtain ⟨_, _, _, h⟩ := hs.form; exact h
  unfold maxLen at hx hy
  have HD : Hid (∀ W, Below w.heap.size w W → Calls Tryd.prog 47 #[.slice a2 ds.length c2, .slice a4 ds'.length c4] W fun e w' =>
      e = .returned (.bool (M.allTwo M.sameDfn ds ds')) ∧ Below W.heap.size W w') := fun W hW => eqDefs_any ds ds' a2 a4 c2 c4 W (h2.later hW) (h4.later hW)
  have HX : Hid (M.samePart ⟨fs, ds⟩ ⟨fs', ds'⟩ = (M.allTwo M.sameFrg fs fs' && M.allTwo M.sameDfn ds ds')) := rfl
  clear h2 h4
  generalize M.samePart ⟨fs, ds⟩ ⟨fs', ds'⟩ = R at *
  generalize M.allTwo M.sameDfn ds ds' = r2 at *
  generalize ds.length = n3 at *
  generalize ds'.length = n4 at *
  by_cases hlen : fs.length = fs'.length
  · cases r2
    · have HX2 : Hid (R = false) := by rw [Hid, HX.out]; simp
      clear HX h1 h3
      generalize fs'.length = m at *
      subst hlen
      go_enter Tryd.func11, Tryd.ntmps11
      go_wp2_with (go_at_call 47; refine (HD.out _ (((Below.refl _ _).alloc (Nat.le_refl _) _).alloc (by simp) _)).mono ?_; rintro e w1 ⟨rfl, hb1⟩; obtain ⟨hc1, hf1⟩ := bcell hb1)
      go_ret
      exact ⟨ret_bool HX2.out.symm, (((Below.refl _ _).alloc (Nat.le_refl _) _).alloc (by simp) _).trans (hb1.mono (by simp; omega))⟩
    · have HX2 : Hid (R = M.allTwo M.sameFrg (fs.drop 0) (fs'.drop 0)) := by rw [Hid, HX.out]; simp
      clear HX
      have HL : Hid (fs'.length = fs.length) := hlen.symm
      rw [← hlen] at h3 hy ⊢
      clear hlen
      go_enter Tryd.func11, Tryd.ntmps11
      go_wp2_with (go_at_call 47; refine (HD.out _ (((Below.refl _ _).alloc (Nat.le_refl _) _).alloc (by simp) _)).mono ?_; rintro e w1 ⟨rfl, hb1⟩; obtain ⟨hc1, hf1⟩ := bcell hb1)
      have HB0 : Hid (Below w.heap.size w w1) := (((Below.refl _ _).alloc (Nat.le_refl _) _).alloc (by simp) _).trans (hb1.mono (by simp; omega))
      have hz0 : w.heap.size + 1 < w1.heap.size := by have := hb1.size; simp at this; omega
      have hb0 := later_new2b hb1 0 _ rfl
      clear hb1 hc1 hf1 HD
      go_loopw [26] (fun s26 wr => ∃ (k : Nat), k ≤ fs.length ∧ s26 = .int .i64 k ∧ Hid (Below w.heap.size w wr) ∧ w.heap.size + 1 < wr.heap.size ∧ wr.cell? ⟨w.heap.size + 1, 0, none⟩ = some (.slice a3 fs.length c3)
        ∧ Hid (R = M.allTwo M.sameFrg (fs.drop k) (fs'.drop k))) (fun s26 _ => fs.length - (intOf s26).toNat)
      case atStart => exact ⟨0, Nat.zero_le _, rfl, HB0, hz0, hb0, HX2⟩
      case round =>
        clear HB0 hz0 hb0 HX2
        obtain ⟨k, hk, rfl, HB, hsz, bx, HR⟩ := hrel
        by_cases hlt : k < fs.length
        · have hbw := HB.out
          have hky : k < fs'.length := by rw [HL.out]; exact hlt
          obtain ⟨b, off, ab, cb, ar, cr, har, e0, e1, e2, e3, e4, e5, hBy, hRl, hg, hbl⟩ := (h1.later hbw).cells k hlt
          obtain ⟨b', off', ab', cb', ar', cr', har', e0', e1', e2', e3', e4', e5', hBy', hRl', hg', hbl'⟩ := (show FragsAt wr (.slice a3 fs'.length c3) fs' by rw [HL.out]; exact h3.later hbw).cells k hky
          have HR1 := HR.out
          rw [frgs_step hlt hky] at HR1
          clear HR h1 h3 hg hbl hg' hbl'
          generalize fs.getD k frg0 = f at *
          generalize fs'.getD k frg0 = g at *
          have HBq : Hid (∀ W, Below wr.heap.size wr W → Calls Tryd.prog 48 #[.slice ab f.bytes.length cb, .slice ab' g.bytes.length cb'] W fun e w' => e = .returned (.bool (M.allTwo (fun x y => x == y) f.bytes g.bytes)) ∧ w' = W) := fun W hW =>
            bytesEqual_any _ _ ab ab' cb cb' W (hBy.later hW) (hBy'.later hW)
          have HRq : Hid (∀ W, Below wr.heap.size wr W → Calls Tryd.prog 49 #[.slice ar f.rels.length cr, .slice ar' g.rels.length cr'] W fun e w' => e = .returned (.bool (M.allTwo M.sameRel f.rels g.rels)) ∧ Below W.heap.size W w') := fun W hW =>
            eqRels_any _ _ ar ar' cr cr' W (hRl.later hW) (hRl'.later hW)
          clear hBy hRl hBy' hRl'
          obtain ⟨s, al, gr, bs, sz, rs⟩ := f
          obtain ⟨s', al', gr', bs', sz', rs'⟩ := g
          simp only at e0 e1 e2 e3 e4 e5 e0' e1' e2' e3' e4' e5' HBq HRq
          have hSF : M.sameFrg ⟨s, al, gr, bs, sz, rs⟩ ⟨s', al', gr', bs', sz', rs'⟩ = (s == s' && al == al' && gr.toList == gr'.toList && sz == sz' && M.allTwo (fun x y => x == y) bs bs' && M.allTwo M.sameRel rs rs') := rfl
          rw [hSF] at HR1
          clear hSF
          generalize M.allTwo (fun x y => x == y) bs bs' = rb at *
          generalize M.allTwo M.sameRel rs rs' = rr at *
          generalize bs.length = n1 at *
          generalize bs'.length = n2 at *
          generalize rs.length = n5 at *
          generalize rs'.length = n6 at *
          have hbr : b < wr.heap.size := World.block_lt_of_cell? _ _ e0
          have hbr' : b' < wr.heap.size := World.block_lt_of_cell? _ _ e0'
          subst har
          subst har'
          cases t1 : (s == s')
          · have HR2 : Hid (R = false) := by rw [Hid, HR1]; simp [t1]
            clear HR1 HBq HRq
            have b1 := bne_beq t1
            go_wp2
            go_ret
            exact ⟨ret_bool HR2.out.symm, hbw.trans ((((Below.refl _ _).alloc (Nat.le_refl _) _).alloc (by simp) _) |>.mono hbw.size)⟩
          cases t2 : (al == al')
          · have HR2 : Hid (R = false) := by rw [Hid, HR1]; simp [t2]
            clear HR1 HBq HRq
            have b1 := bne_beq t1
            have b2 := bne_beq t2
            go_wp2
            go_ret
            exact ⟨ret_bool HR2.out.symm, hbw.trans ((((Below.refl _ _).alloc (Nat.le_refl _) _).alloc (by simp) _) |>.mono hbw.size)⟩
          cases t3 : (gr.toList == gr'.toList)
          · have HR2 : Hid (R = false) := by rw [Hid, HR1]; simp [t3]
            clear HR1 HBq HRq
            have b1 := bne_beq t1
            have b2 := bne_beq t2
            have b3 := bne_beqS t3
            go_wp2
            go_ret
            exact ⟨ret_bool HR2.out.symm, hbw.trans ((((Below.refl _ _).alloc (Nat.le_refl _) _).alloc (by simp) _) |>.mono hbw.size)⟩
          cases t4 : (sz == sz')
          · have HR2 : Hid (R = false) := by rw [Hid, HR1]; simp [t4]
            clear HR1 HBq HRq
            have b1 := bne_beq t1
            have b2 := bne_beq t2
            have b3 := bne_beqS t3
            have b4 := bne_beq t4
            go_wp2
            go_ret
            exact ⟨ret_bool HR2.out.symm, hbw.trans ((((Below.refl _ _).alloc (Nat.le_refl _) _).alloc (by simp) _) |>.mono hbw.size)⟩
          have b1 := bne_beq t1
          have b2 := bne_beq t2
          have b3 := bne_beqS t3
          have b4 := bne_beq t4
          cases rb
          · have HR2 : Hid (R = false) := by rw [Hid, HR1]; simp
            clear HR1
            go_wp2_with (go_at_call 48; refine (HBq.out _ (((Below.refl _ _).alloc (Nat.le_refl _) _).alloc (by simp) _)).mono ?_; rintro e w2 ⟨rfl, rfl⟩)
            go_ret
            exact ⟨ret_bool HR2.out.symm, hbw.trans ((((Below.refl _ _).alloc (Nat.le_refl _) _).alloc (by simp) _) |>.mono hbw.size)⟩
          · cases rr
            · have HR2 : Hid (R = false) := by rw [Hid, HR1]; simp
              clear HR1
              go_wp2_with (first | (go_at_call 48; refine (HBq.out _ (((Below.refl _ _).alloc (Nat.le_refl _) _).alloc (by simp) _)).mono ?_; rintro e w2 ⟨rfl, rfl⟩) | (go_at_call 49; refine (HRq.out _ (((Below.refl _ _).alloc (Nat.le_refl _) _).alloc (by simp) _)).mono ?_; rintro e w3 ⟨rfl, hb3⟩))
              go_ret
              exact ⟨ret_bool HR2.out.symm, hbw.trans ((((Below.refl _ _).alloc (Nat.le_refl _) _).alloc (by simp) _).trans (hb3.mono (by simp; omega)) |>.mono hbw.size)⟩
            · have HR2 : Hid (R = M.allTwo M.sameFrg (fs.drop (k + 1)) (fs'.drop (k + 1))) := by rw [Hid, HR1]; simp [t1, t2, t3, t4]
              clear HR1
              go_wp2_with (first | (go_at_call 48; refine (HBq.out _ (((Below.refl _ _).alloc (Nat.le_refl _) _).alloc (by simp) _)).mono ?_; rintro e w2 ⟨rfl, rfl⟩) | (go_at_call 49; refine (HRq.out _ (((Below.refl _ _).alloc (Nat.le_refl _) _).alloc (by simp) _)).mono ?_; rintro e w3 ⟨rfl, hb3⟩))
              go_roundw
              case rel =>
                have hs3 := hb3.size
                simp at hs3
                exact ⟨k + 1, by omega, by go_num, hbw.trans ((((Below.refl _ _).alloc (Nat.le_refl _) _).alloc (by simp) _).trans (hb3.mono (by simp; omega)) |>.mono hbw.size), by omega, cell_later hb3 ((World.cell?_alloc_past _ _ _ (by simp; omega)).trans ((World.cell?_alloc_past _ _ _ hsz).trans bx)), HR2⟩
              case measure => simp [intOf]; omega
        · have HR0 : Hid (R = true) := by
            have := HR.out
            have h1' : fs.length ≤ k := by omega
            have h2' : fs'.length ≤ k := by rw [HL.out]; omega
            rw [List.drop_of_length_le h1', List.drop_of_length_le h2'] at this
            exact this
          clear HR
          go_wp2
          go_ret
          exact ⟨ret_bool HR0.out.symm, HB.out⟩
  · have HX2 : Hid (R = false) := by rw [Hid, HX.out, allTwo_len _ _ _ hlen]; rfl
    clear HX h1 h3 HD
    generalize fs.length = n at *
    generalize fs'.length = m at *
    have hne : (n != m) = true := by rw [bne_iff_ne]; exact hlen
    have hni : ¬ (n : Int) = (m : Int) := by omega
    clear hlen
    go_enter Tryd.func11, Tryd.ntmps11
    go_wp2
    go_ret
    exact ⟨ret_bool HX2.out.symm, (((Below.refl _ _).alloc (Nat.le_refl _) _).alloc (by simp) _)⟩

end Go.Proofs.YthbdfnphnppagaaDoor
