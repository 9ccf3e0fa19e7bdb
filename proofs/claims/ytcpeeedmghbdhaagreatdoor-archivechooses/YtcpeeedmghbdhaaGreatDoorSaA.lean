/-
  The contracts of slices.Equal at bytes, of bytes.Equal, of obj.sameFrag. The contracts of slices.EqualFunc at fragments, of obj.Same. A part of a row of parts: its cells; a part is like itself.
-/
import Derived.Test.YtcpeeedmghbdhaaGreatDoorSame
import Derived.Test.YtcpeeedmghbdhaaGreatDoorMemB
import Derived.Test.YtcpeeedmghbdhaaGreatDoorCheckA
import Derived.Test.YtcpeeedmghbdhaaGreatDoorPrtA

namespace Go.Proofs.YtcpeeedmghbdhaaGreatDoor
open Go.RowKit Go.Shelf
set_option linter.unusedVariables false

set_option maxRecDepth 100000 in
theorem eqBytes_short (a1 a2 : Option Addr) (n c m d : Nat) (w : World) (hn : n ≤ maxLen) (hm : m ≤ maxLen) (h : ¬ n = m ∨ n = 0 ∧ m = 0) :
    Calls Tryz.prog 57 #[.slice a1 n c, .slice a2 m d] w fun e w' => e = .returned (.bool (decide (n = m))) ∧ w' = w := by
  unfold maxLen at hn hm
  rcases h with h | ⟨rfl, rfl⟩
  · have hne : (n != m) = true := by rw [bne_iff_ne]; exact h
    have hni : ¬ (n : Int) = (m : Int) := by omega
    have HX : Hid (decide (n = m) = false) := decide_eq_false h
    generalize decide (n = m) = R at *
    clear h
    go_enter Tryz.func57, Tryz.ntmps57
    go_wp2
    go_ret
    exact ⟨by rw [HX.out]; rfl, rfl⟩
  · go_enter Tryz.func57, Tryz.ntmps57
    go_wp2_with fail
    refine wp_loop_rounds 1 ?_
    rw [rounds_succ]
    go_wp2
    go_ret
    exact ⟨rfl, rfl⟩

theorem eqBytes_any (xs ys : List Int) (a1 a2 : Option Addr) (c d : Nat) (w : World) (h1 : BytesAt w (.slice a1 xs.length c) xs) (h2 : BytesAt w (.slice a2 ys.length d) ys) :
    Calls Tryz.prog 57 #[.slice a1 xs.length c, .slice a2 ys.length d] w fun e w' => e = .returned (.bool (M.allTwo (fun x y => x == y) xs ys)) ∧ Below w.heap.size w w' := by
  have hx : xs.length ≤ maxLen := by obtain ⟨_, _, _, h⟩ := h1.1.form; exact h
  have hy : ys.length ≤ maxLen := by obtain ⟨_, _, _, h⟩ := h2.1.form; exact h
  by_cases hsh : ¬ xs.length = ys.length ∨ xs.length = 0 ∧ ys.length = 0
  · refine (eqBytes_short a1 a2 _ c _ d w hx hy hsh).mono fun e w' ⟨he, hw⟩ => ⟨?_, by rw [hw]; exact Below.refl _ _⟩
    rw [he]
    congr 2
    rcases hsh with h | ⟨h, h'⟩
    · rw [decide_eq_false h, ← allTwo_eq, Lib.allEq_len _ _ _ h]
    · rw [List.eq_nil_of_length_eq_zero h, List.eq_nil_of_length_eq_zero h']; rfl
  · obtain ⟨b1, o1, rfl, hc1⟩ : ∃ b off, a1 = some ⟨b, off, none⟩ ∧ ∀ j i, j < xs.length → i < 1 → w.cell? ⟨b, off + j * 1 + i, none⟩ = some (.int .u8 (xs.getD j 0)) := h1.1.all (by omega)
    obtain ⟨b2, o2, rfl, hc2⟩ : ∃ b off, a2 = some ⟨b, off, none⟩ ∧ ∀ j i, j < ys.length → i < 1 → w.cell? ⟨b, off + j * 1 + i, none⟩ = some (.int .u8 (ys.getD j 0)) := h2.1.all (by omega)
    have key := AnyE.slices_Equal Tryz.eqByte (Value.int .u8) (fun x y => x == y) (NeqAt.int _ _ .u8) b1 o1 xs.length c b2 o2 ys.length d xs ys w (Nat.le_refl _) (Nat.le_refl _) hx hy
      (fun j hj => by
        have := hc1 j 0 hj (by decide)
        rw [Nat.mul_one, Nat.add_zero] at this
        rw [this]
        simp [List.getElem!_eq_getElem?_getD, List.getD_eq_getElem?_getD])
      (fun j hj => by
        have := hc2 j 0 hj (by decide)
        rw [Nat.mul_one, Nat.add_zero] at this
        rw [this]
        simp [List.getElem!_eq_getElem?_getD, List.getD_eq_getElem?_getD])
    rw [List.take_length, List.take_length, allTwo_eq] at key
    refine Calls.mono key fun e w' ⟨he, q, hw⟩ => ⟨he, ?_⟩
    rw [hw]
    exact below_drewN' _ _ _

theorem BytesAt.in {w : World} {xs : List Int} {a : Option Addr} {c : Nat} (h : BytesAt w (.slice a xs.length c) xs) : Lib.BytesIn w a xs.length xs := fun hn => by
  obtain ⟨b, off, rfl, hc⟩ := h.1.all hn
  refine ⟨b, off, rfl, fun i hi => ?_⟩
  have := hc i 0 hi (by decide)
  rwa [Nat.mul_one, Nat.add_zero] at this

theorem bytesOf_eq : ∀ xs ys : List Int, (∀ b ∈ xs, 0 ≤ b ∧ b < 256) → (∀ b ∈ ys, 0 ≤ b ∧ b < 256) → (Lib.bytesOf xs == Lib.bytesOf ys) = M.allTwo (fun x y => x == y) xs ys
  | [], [], _, _ => rfl
  | [], y :: ys, _, _ => rfl
  | x :: xs, [], _, _ => rfl
  | x :: xs, y :: ys, hx, hy => by
    have ih := bytesOf_eq xs ys (fun b hb => hx b (List.mem_cons_of_mem _ hb)) (fun b hb => hy b (List.mem_cons_of_mem _ hb))
    have h1 := hx x List.mem_cons_self
    have h2 := hy y List.mem_cons_self
    have e : (UInt8.ofNat x.toNat == UInt8.ofNat y.toNat) = (x == y) := by
      rw [Bool.eq_iff_iff]
      simp only [beq_iff_eq]
      constructor
      · intro h
        have := congrArg UInt8.toNat h
        simp at this
        omega
      · intro h
        rw [h]
    show ((UInt8.ofNat x.toNat :: Lib.bytesOf xs) == (UInt8.ofNat y.toNat :: Lib.bytesOf ys)) = _
    rw [List.cons_beq_cons, ih, e]
    rfl

theorem bytesEqual_any (xs ys : List Int) (a1 a2 : Option Addr) (c d : Nat) (w : World) (h1 : BytesAt w (.slice a1 xs.length c) xs) (h2 : BytesAt w (.slice a2 ys.length d) ys) :
    Calls Tryz.prog 32 #[.slice a1 xs.length c, .slice a2 ys.length d] w fun e w' => e = .returned (.bool (M.allTwo (fun x y => x == y) xs ys)) ∧ w' = w := by
  rw [← bytesOf_eq xs ys h1.2 h2.2]
  exact Any.bytes_Equal_all Tryz.laysnb115 a1 a2 xs.length c ys.length d xs ys w rfl rfl h1.in h2.in

set_option maxHeartbeats 1000000 in
set_option maxRecDepth 100000 in
theorem sameFrag_any (f g : M.Frg) (a1 a2 a3 a4 : Option Addr) (c1 c2 c3 c4 : Nat) (w : World) (h1 : BytesAt w (.slice a1 f.bytes.length c1) f.bytes) (h2 : RelsAt w (.slice a2 f.rels.length c2) f.rels)
    (h3 : BytesAt w (.slice a3 g.bytes.length c3) g.bytes) (h4 : RelsAt w (.slice a4 g.rels.length c4) g.rels) :
    Calls Tryz.prog 41 #[.agg #[.int .i64 f.sect, .int .i64 f.align, .string f.group, .slice a1 f.bytes.length c1, .int .i64 f.size, .slice a2 f.rels.length c2],
      .agg #[.int .i64 g.sect, .int .i64 g.align, .string g.group, .slice a3 g.bytes.length c3, .int .i64 g.size, .slice a4 g.rels.length c4]] w fun e w' =>
      e = .returned (.bool (M.sameFrg f g)) ∧ Below w.heap.size w w' := by
  have HB : Hid (∀ W, Below w.heap.size w W → Calls Tryz.prog 57 #[.slice a1 f.bytes.length c1, .slice a3 g.bytes.length c3] W fun e w' => e = .returned (.bool (M.allTwo (fun x y => x == y) f.bytes g.bytes)) ∧ Below W.heap.size W w') := fun W hW =>
    eqBytes_any _ _ a1 a3 c1 c3 W (h1.later hW) (h3.later hW)
  have HL : Hid (∀ W, Below w.heap.size w W → Calls Tryz.prog 33 #[.slice a2 f.rels.length c2, .slice a4 g.rels.length c4] W fun e w' => e = .returned (.bool (M.allTwo M.sameRel f.rels g.rels)) ∧ Below W.heap.size W w') := fun W hW =>
    eqRels_any _ _ a2 a4 c2 c4 W (h2.later hW) (h4.later hW)
  clear h1 h2 h3 h4
  obtain ⟨s, al, gr, bs, sz, rs⟩ := f
  obtain ⟨s', al', gr', bs', sz', rs'⟩ := g
  simp only at HB HL ⊢
  have hR : M.sameFrg ⟨s, al, gr, bs, sz, rs⟩ ⟨s', al', gr', bs', sz', rs'⟩ = (s == s' && al == al' && gr.toList == gr'.toList && sz == sz' && M.allTwo (fun x y => x == y) bs bs' && M.allTwo M.sameRel rs rs') := rfl
  generalize M.sameFrg ⟨s, al, gr, bs, sz, rs⟩ ⟨s', al', gr', bs', sz', rs'⟩ = R at *
  generalize M.allTwo (fun x y => x == y) bs bs' = rb at *
  generalize M.allTwo M.sameRel rs rs' = rr at *
  generalize bs.length = n1 at *
  generalize bs'.length = n2 at *
  generalize rs.length = n3 at *
  generalize rs'.length = n4 at *
  cases t1 : (s == s')
  · have HX : Hid (R = false) := by rw [Hid, hR]; simp [t1]
    clear hR HB HL
    go_enter Tryz.func41, Tryz.ntmps41
    go_wp2
    go_ret
    exact ⟨ret_bool HX.out.symm, ((Below.refl _ _).alloc (Nat.le_refl _) _).alloc (by simp) _⟩
  cases t2 : (al == al')
  · have HX : Hid (R = false) := by rw [Hid, hR]; simp [t2]
    clear hR HB HL
    go_enter Tryz.func41, Tryz.ntmps41
    go_wp2
    go_ret
    exact ⟨ret_bool HX.out.symm, ((Below.refl _ _).alloc (Nat.le_refl _) _).alloc (by simp) _⟩
  cases t3 : (gr.toList == gr'.toList)
  · have HX : Hid (R = false) := by rw [Hid, hR]; simp [t3]
    clear hR HB HL
    go_enter Tryz.func41, Tryz.ntmps41
    go_wp2
    go_ret
    exact ⟨ret_bool HX.out.symm, ((Below.refl _ _).alloc (Nat.le_refl _) _).alloc (by simp) _⟩
  cases t4 : (sz == sz')
  · have HX : Hid (R = false) := by rw [Hid, hR]; simp [t4]
    clear hR HB HL
    go_enter Tryz.func41, Tryz.ntmps41
    go_wp2
    go_ret
    exact ⟨ret_bool HX.out.symm, ((Below.refl _ _).alloc (Nat.le_refl _) _).alloc (by simp) _⟩
  have HX : Hid (R = (rb && rr)) := by rw [Hid, hR]; simp [t1, t2, t3, t4]
  clear hR
  cases rb
  · go_enter Tryz.func41, Tryz.ntmps41
    go_wp2_with (go_at_call 57; refine (HB.out _ (((Below.refl _ _).alloc (Nat.le_refl _) _).alloc (by simp) _)).mono ?_; rintro e w1 ⟨rfl, hb1⟩; obtain ⟨hc1, hf1⟩ := bcell hb1)
    go_ret
    exact ⟨ret_bool HX.out.symm, (((Below.refl _ _).alloc (Nat.le_refl _) _).alloc (by simp) _).trans (hb1.mono (by simp; omega))⟩
  · go_enter Tryz.func41, Tryz.ntmps41
    go_wp2_with (first | (go_at_call 57; refine (HB.out _ (((Below.refl _ _).alloc (Nat.le_refl _) _).alloc (by simp) _)).mono ?_; rintro e w1 ⟨rfl, hb1⟩; obtain ⟨hc1, hf1⟩ := bcell hb1) | (go_at_call 33; refine (HL.out _ ((((Below.refl _ _).alloc (Nat.le_refl _) _).alloc (by simp) _).trans (hb1.mono (by simp; omega)))).mono ?_; rintro e w2 ⟨rfl, hb2⟩))
    go_ret
    exact ⟨ret_bool HX.out.symm, (((Below.refl _ _).alloc (Nat.le_refl _) _).alloc (by simp) _).trans ((hb1.trans (hb2.mono hb1.size)).mono (by simp; omega))⟩

end Go.Proofs.YtcpeeedmghbdhaaGreatDoor

namespace Go.Proofs.YtcpeeedmghbdhaaGreatDoor
open Go.RowKit Go.Shelf
set_option linter.unusedVariables false

theorem allTwo_len {α : Type} (eq : α → α → Bool) (xs ys : List α) (h : ¬ xs.length = ys.length) : M.allTwo eq xs ys = false := by
  rw [← allTwo_eq, Lib.allEq_len _ _ _ h]

theorem frgs_step {xs ys : List M.Frg} {k : Nat} (hx : k < xs.length) (hy : k < ys.length) :
    M.allTwo M.sameFrg (xs.drop k) (ys.drop k) = (M.sameFrg (xs.getD k frg0) (ys.getD k frg0) && M.allTwo M.sameFrg (xs.drop (k + 1)) (ys.drop (k + 1))) := by
  rw [drop_getD xs frg0 k hx, drop_getD ys frg0 k hy]; rfl

set_option maxHeartbeats 2000000 in
set_option maxRecDepth 100000 in
theorem eqFunc_any (xs ys : List M.Frg) (a1 a2 : Option Addr) (c1 c2 : Nat) (w : World) (h1 : FragsAt w (.slice a1 xs.length c1) xs) (h2 : FragsAt w (.slice a2 ys.length c2) ys) :
    Calls Tryz.prog 40 #[.slice a1 xs.length c1, .slice a2 ys.length c2, .func (.func 41) #[] #[]] w fun e w' =>
      e = .returned (.bool (M.allTwo M.sameFrg xs ys)) ∧ Below w.heap.size w w' := by
  have hx : xs.length ≤ maxLen := by obtain ⟨cell, hs, _⟩ := h1; obtain ⟨_, _, _, h⟩ := hs.form; exact h
  have hy : ys.length ≤ maxLen := by obtain ⟨cell, hs, _⟩ := h2; obtain ⟨_, _, _, h⟩ := hs.form; exact h
  unfold maxLen at hx hy
  by_cases hlen : xs.length = ys.length
  · have HX : Hid (M.allTwo M.sameFrg xs ys = M.allTwo M.sameFrg (xs.drop 0) (ys.drop 0)) := rfl
    generalize M.allTwo M.sameFrg xs ys = R at *
    have HL : Hid (ys.length = xs.length) := hlen.symm
    rw [← hlen] at h2 hy ⊢
    clear hlen
    go_enter Tryz.func40, Tryz.ntmps40
    go_wp2_with fail
    go_loopw [17] (fun s17 wr => ∃ (k : Nat), k ≤ xs.length ∧ s17 = .int .i64 k ∧ Hid (Below w.heap.size w wr) ∧ Hid (R = M.allTwo M.sameFrg (xs.drop k) (ys.drop k))) (fun s17 _ => xs.length - (intOf s17).toNat)
    case atStart => exact ⟨0, Nat.zero_le _, rfl, Below.refl _ _, HX⟩
    case round =>
      obtain ⟨k, hk, rfl, HB, HR⟩ := hrel
      clear HX
      by_cases hlt : k < xs.length
      · have hbw := HB.out
        have hky : k < ys.length := by rw [HL.out]; exact hlt
        obtain ⟨b, off, ab, cb, ar, cr, har, e0, e1, e2, e3, e4, e5, hBy, hRl, hg, hbl⟩ := (h1.later hbw).cells k hlt
        obtain ⟨b', off', ab', cb', ar', cr', har', e0', e1', e2', e3', e4', e5', hBy', hRl', hg', hbl'⟩ := (show FragsAt wr (.slice a2 ys.length c2) ys by rw [HL.out]; exact h2.later hbw).cells k hky
        have HR1 := HR.out
        rw [frgs_step hlt hky] at HR1
        clear HR h1 h2 hg hbl hg' hbl'
        generalize xs.getD k frg0 = f at *
        generalize ys.getD k frg0 = g at *
        have HS : Hid (∀ W, Below wr.heap.size wr W → Calls Tryz.prog 41 #[.agg #[.int .i64 f.sect, .int .i64 f.align, .string f.group, .slice ab f.bytes.length cb, .int .i64 f.size, .slice ar f.rels.length cr],
            .agg #[.int .i64 g.sect, .int .i64 g.align, .string g.group, .slice ab' g.bytes.length cb', .int .i64 g.size, .slice ar' g.rels.length cr']] W fun e w' => e = .returned (.bool (M.sameFrg f g)) ∧ Below W.heap.size W w') := fun W hW =>
          sameFrag_any f g ab ar ab' ar' cb cr cb' cr' W (hBy.later hW) (hRl.later hW) (hBy'.later hW) (hRl'.later hW)
        clear hBy hRl hBy' hRl'
        generalize M.sameFrg f g = sf at *
        obtain ⟨s, al, gr, bs, sz, rs⟩ := f
        obtain ⟨s', al', gr', bs', sz', rs'⟩ := g
        simp only at e0 e1 e2 e3 e4 e5 e0' e1' e2' e3' e4' e5' HS
        generalize bs.length = n1 at *
        generalize bs'.length = n2 at *
        generalize rs.length = n3 at *
        generalize rs'.length = n4 at *
        have hbr : b < wr.heap.size := World.block_lt_of_cell? _ _ e0
        have hbr' : b' < wr.heap.size := World.block_lt_of_cell? _ _ e0'
        subst har
        subst har'
        cases sf
        · have HR2 : Hid (R = false) := HR1
          clear HR1
          go_wp2_with (go_at_call 41; refine (HS.out _ (((Below.refl _ _).alloc (Nat.le_refl _) _).alloc (by simp) _)).mono ?_; rintro e w2 ⟨rfl, hb2⟩)
          go_ret
          exact ⟨ret_bool HR2.out.symm, hbw.trans ((((Below.refl _ _).alloc (Nat.le_refl _) _).alloc (by simp) _).trans (hb2.mono (by simp; omega)) |>.mono hbw.size)⟩
        · have HR2 : Hid (R = M.allTwo M.sameFrg (xs.drop (k + 1)) (ys.drop (k + 1))) := HR1
          clear HR1
          go_wp2_with (go_at_call 41; refine (HS.out _ (((Below.refl _ _).alloc (Nat.le_refl _) _).alloc (by simp) _)).mono ?_; rintro e w2 ⟨rfl, hb2⟩)
          go_roundw
          case rel => exact ⟨k + 1, by omega, by go_num, hbw.trans ((((Below.refl _ _).alloc (Nat.le_refl _) _).alloc (by simp) _).trans (hb2.mono (by simp; omega)) |>.mono hbw.size), HR2⟩
          case measure => simp [intOf]; omega
      · have HR0 : Hid (R = true) := by
          have := HR.out
          have h1' : xs.length ≤ k := by omega
          have h2' : ys.length ≤ k := by rw [HL.out]; omega
          rw [List.drop_of_length_le h1', List.drop_of_length_le h2'] at this
          exact this
        clear HR
        go_wp2
        go_ret
        exact ⟨ret_bool HR0.out.symm, HB.out⟩
  · have HX : Hid (M.allTwo M.sameFrg xs ys = false) := allTwo_len _ _ _ hlen
    generalize M.allTwo M.sameFrg xs ys = R at *
    clear h1 h2
    generalize xs.length = n at *
    generalize ys.length = m at *
    have hne : (n != m) = true := by rw [bne_iff_ne]; exact hlen
    have hni : ¬ (n : Int) = (m : Int) := by omega
    clear hlen
    go_enter Tryz.func40, Tryz.ntmps40
    go_wp2
    go_ret
    exact ⟨ret_bool HX.out.symm, Below.refl _ _⟩

set_option maxHeartbeats 1000000 in
set_option maxRecDepth 100000 in
theorem same_any (fs fs' : List M.Frg) (ds ds' : List M.Dfn) (a1 a2 a3 a4 : Option Addr) (c1 c2 c3 c4 : Nat) (w : World) (h1 : FragsAt w (.slice a1 fs.length c1) fs) (h2 : DefsAt w (.slice a2 ds.length c2) ds)
    (h3 : FragsAt w (.slice a3 fs'.length c3) fs') (h4 : DefsAt w (.slice a4 ds'.length c4) ds') :
    Calls Tryz.prog 23 #[.agg #[.slice a1 fs.length c1, .slice a2 ds.length c2], .agg #[.slice a3 fs'.length c3, .slice a4 ds'.length c4]] w fun e w' =>
      e = .returned (.bool (M.samePart ⟨fs, ds⟩ ⟨fs', ds'⟩)) ∧ Below w.heap.size w w' := by
  have HF : Hid (∀ W, Below w.heap.size w W → Calls Tryz.prog 40 #[.slice a1 fs.length c1, .slice a3 fs'.length c3, .func (.func 41) #[] #[]] W fun e w' =>
      e = .returned (.bool (M.allTwo M.sameFrg fs fs')) ∧ Below W.heap.size W w') := fun W hW => eqFunc_any fs fs' a1 a3 c1 c3 W (h1.later hW) (h3.later hW)
  have HD : Hid (∀ W, Below w.heap.size w W → Calls Tryz.prog 31 #[.slice a2 ds.length c2, .slice a4 ds'.length c4] W fun e w' =>
      e = .returned (.bool (M.allTwo M.sameDfn ds ds')) ∧ Below W.heap.size W w') := fun W hW => eqDefs_any ds ds' a2 a4 c2 c4 W (h2.later hW) (h4.later hW)
  have HX : Hid (M.samePart ⟨fs, ds⟩ ⟨fs', ds'⟩ = (M.allTwo M.sameFrg fs fs' && M.allTwo M.sameDfn ds ds')) := rfl
  clear h1 h2 h3 h4
  generalize M.samePart ⟨fs, ds⟩ ⟨fs', ds'⟩ = R at *
  generalize M.allTwo M.sameFrg fs fs' = r1 at *
  generalize M.allTwo M.sameDfn ds ds' = r2 at *
  generalize fs.length = n1 at *
  generalize fs'.length = n2 at *
  generalize ds.length = n3 at *
  generalize ds'.length = n4 at *
  cases r1
  · go_enter Tryz.func23, Tryz.ntmps23
    go_wp2_with (go_at_call 40; refine (HF.out _ (((Below.refl _ _).alloc (Nat.le_refl _) _).alloc (by simp) _)).mono ?_; rintro e w1 ⟨rfl, hb1⟩; obtain ⟨hc1, hf1⟩ := bcell hb1)
    go_ret
    exact ⟨ret_bool HX.out.symm, (((Below.refl _ _).alloc (Nat.le_refl _) _).alloc (by simp) _).trans (hb1.mono (by simp; omega))⟩
  · go_enter Tryz.func23, Tryz.ntmps23
    go_wp2_with (first | (go_at_call 40; refine (HF.out _ (((Below.refl _ _).alloc (Nat.le_refl _) _).alloc (by simp) _)).mono ?_; rintro e w1 ⟨rfl, hb1⟩; obtain ⟨hc1, hf1⟩ := bcell hb1) | (go_at_call 31; refine (HD.out _ ((((Below.refl _ _).alloc (Nat.le_refl _) _).alloc (by simp) _).trans (hb1.mono (by simp; omega)))).mono ?_; rintro e w2 ⟨rfl, hb2⟩))
    go_ret
    exact ⟨ret_bool HX.out.symm, (((Below.refl _ _).alloc (Nat.le_refl _) _).alloc (by simp) _).trans ((hb1.trans (hb2.mono hb1.size)).mono (by simp; omega))⟩

end Go.Proofs.YtcpeeedmghbdhaaGreatDoor

namespace Go.Proofs.YtcpeeedmghbdhaaGreatDoor
open Go Go.RowKit
set_option linter.unusedVariables false

theorem same_selfP (p : M.Prt) : M.samePart p p = true := by
  have h1 : ∀ l : List M.Rel, M.allTwo M.sameRel l l = true := fun l => by
    induction l with
    | nil => rfl
    | cons x l ih => simp [M.allTwo, M.sameRel, ih]
  have h2 : ∀ l : List Int, M.allTwo (fun x y => x == y) l l = true := fun l => by
    induction l with
    | nil => rfl
    | cons x l ih => simp [M.allTwo, ih]
  have h3 : ∀ l : List M.Frg, M.allTwo M.sameFrg l l = true := fun l => by
    induction l with
    | nil => rfl
    | cons x l ih => simp [M.allTwo, M.sameFrg, h1, h2, ih]
  have h4 : ∀ l : List M.Dfn, M.allTwo M.sameDfn l l = true := fun l => by
    induction l with
    | nil => rfl
    | cons x l ih => simp [M.allTwo, M.sameDfn, ih]
  simp [M.samePart, h3, h4]

/-- a part in a variable, or in a row -/
structure SmT (X : World) (a1 a2 : Option Addr) (c1 c2 : Nat) (p : M.Prt) : Prop where
  fr : FragsAt X (.slice a1 p.frags.length c1) p.frags
  df : DefsAt X (.slice a2 p.defs.length c2) p.defs

/-- the cells of one part of a row -/
theorem parts_cell {w : World} {a : Option Addr} {c n : Nat} {ps : List M.Prt} (h : PartsAt w (.slice a n c) ps) (hn : ps.length = n) (k : Nat) (hk : k < n) : ∃ b off a1 c1 a2 c2, a = some ⟨b, off, none⟩ ∧ w.cell? ⟨b, off + k * 2, none⟩ = some (.slice a1 (ps.getD k M.nil).frags.length c1) ∧ w.cell? ⟨b, off + k * 2 + 1, none⟩ = some (.slice a2 (ps.getD k M.nil).defs.length c2) ∧ SmT w a1 a2 c1 c2 (ps.getD k M.nil) := by
  subst hn
  obtain ⟨cell, hs, hc⟩ := h
  obtain ⟨b, off, rfl, hce⟩ := hs.at k hk
  obtain ⟨hF, hD⟩ := hc k hk
  have e0 := hce 0 (by decide)
  have e1 := hce 1 (by decide)
  rw [Nat.add_zero] at e0
  obtain ⟨a1, c1, h1⟩ := hF.form
  obtain ⟨a2, c2, h2⟩ := hD.form
  rw [h1] at e0 hF
  rw [h2] at e1 hD
  exact ⟨b, off, a1, c1, a2, c2, rfl, e0, e1, hF, hD⟩

end Go.Proofs.YtcpeeedmghbdhaaGreatDoor
