/-
  The contracts of slices.EqualFunc at fragments, of obj.Same.
-/
import Derived.Test.YtebhbhbhcoijpaaSameFrag
import Derived.Test.YtebhbhbhcoijpaaCheck
namespace Go.Proofs.Ytebhbhbhcoijpaa
open Go.RowKit Go.Shelf
set_option linter.unusedVariables false

theorem allTwo_len {α : Type} (eq : α → α → Bool) (xs ys : List α) (h : ¬ xs.length = ys.length) : M.allTwo eq xs ys = false := by
  rw [← allTwo_eq, Lib.allEq_len _ _ _ h]

theorem frgs_step {xs ys : List M.Frg} {k : Nat} (hx : k < xs.length) (hy : k < ys.length) :
    M.allTwo M.sameFrg (xs.drop k) (ys.drop k) = (M.sameFrg (xs.getD k frg0) (ys.getD k frg0) && M.allTwo M.sameFrg (xs.drop (k + 1)) (ys.drop (k + 1))) := by
  rw [drop_getD xs frg0 k hx, drop_getD ys frg0 k hy]; rfl

set_option maxHeartbeats 2000000 in
set_option maxRecDepth 100000 in
theorem eqFunc_any (xs ys : List M.Frg) (a1 a2 : Option Addr) (c1 c2 : Nat) (w : World) (h1 : FragsAt w (.slice a1 xs.length c1) xs) (h2 : FragsAt w (.slice a2 ys.length c2) ys) :
    Calls Try.prog 45 #[.slice a1 xs.length c1, .slice a2 ys.length c2, .func (.func 46) #[] #[]] w fun e w' =>
      e = .returned (.bool (M.allTwo M.sameFrg xs ys)) ∧ Below w.heap.size w w' := by
  have hx : xs.length ≤ maxLen := by obtain ⟨cell, hs, _⟩ := h1; obtain ⟨_, _, _, h⟩ := hs.form; exact h
  have hy : ys.length ≤ maxLen := by obtain ⟨cell, hs, _⟩ := h2; obtain ⟨_, _, _, h⟩ := hs.form; exact h
  unfold maxLen at hx hy
  by_cases hlen : xs.length = ys.length
  · have HX : Hid (M.allTwo M.sameFrg xs ys = M.allTwo M.sameFrg (xs.drop 0) (ys.drop 0)) := rfl
    generalize M.allTwo M.sameFrg xs ys = R at *
    have HL : Hid (ys.length = xs.length) := hlen.symm
    rw [← hlen] at h2 hy ⊢
    clear hlen
    go_enter Try.func45, Try.ntmps45
    go_wp2_with fail
    go_loopw [17] (fun s17 wr => ∃ (k : Nat), k ≤ xs.length ∧ s17 = .int .i64 k ∧ Hid (Below w.heap.size w wr) ∧ Hid (R = M.allTwo M.sameFrg (xs.drop k) (ys.drop k))) (fun s17 _ => xs.length - (intOf s17).toNat)
    case atStart => exact ⟨0, Nat.zero_le _, rfl, Below.refl _ _, HX⟩
    case round =>
      obtain ⟨k, hk, rfl, HB, HR⟩ := hrel
      clear HX
      by_cases hlt : k < xs.length
      · have hbw := HB.out
        have hky : k < ys.length := by rw [HL.out]; exact hlt
        obtain ⟨b, off, ab, cb, ar, cr, har, e0, e1, e2, e3, e4, e5, hBy, hRl, hg, hbl⟩ := (h1.later hbw).cells k hlt
        obtain ⟨b', off', ab', cb', ar', cr', har', e0', e1', e2', e3', e4', e5', hBy', hRl', hg', hbl'⟩ := (show FragsAt wr (.slice a2 ys.length c2) ys by rw [HL.out]; exact h2.later hbw).cells k hky
        have HR1 := HR.out
        rw [frgs_step hlt hky] at HR1
        clear HR h1 h2 hg hbl hg' hbl'
        generalize xs.getD k frg0 = f at *
        generalize ys.getD k frg0 = g at *
        have HS : Hid (∀ W, Below wr.heap.size wr W → Calls Try.prog 46 #[.agg #[.int .i64 f.sect, .int .i64 f.align, .string f.group, .slice ab f.bytes.length cb, .int .i64 f.size, .slice ar f.rels.length cr],
            .agg #[.int .i64 g.sect, .int .i64 g.align, .string g.group, .slice ab' g.bytes.length cb', .int .i64 g.size, .slice ar' g.rels.length cr']] W fun e w' => e = .returned (.bool (M.sameFrg f g)) ∧ Below W.heap.size W w') := fun W hW =>
          sameFrag_any f g ab ar ab' ar' cb cr cb' cr' W (hBy.later hW) (hRl.later hW) (hBy'.later hW) (hRl'.later hW)
        clear hBy hRl hBy' hRl'
        generalize M.sameFrg f g = sf at *
        obtain ⟨s, al, gr, bs, sz, rs⟩ := f
        obtain ⟨s', al', gr', bs', sz', rs'⟩ := g
        simp only at e0 e1 e2 e3 e4 e5 e0' e1' e2' e3' e4' e5' HS
        generalize bs.length = n1 at *
        generalize bs'.length = n2 at *
        generalize rs.length = n3 at *
        generalize rs'.length = n4 at *
        have hbr : b < wr.heap.size := World.block_lt_of_cell? _ _ e0
        have hbr' : b' < wr.heap.size := World.block_lt_of_cell? _ _ e0'
        subst har
        subst har'
        cases sf
        · have HR2 : Hid (R = false) := HR1
          clear HR1
          go_wp2_with (go_at_call 46; refine (HS.out _ (((Below.refl _ _).alloc (Nat.le_refl _) _).alloc (by simp) _)).mono ?_; rintro e w2 ⟨rfl, hb2⟩)
          go_ret
          exact ⟨ret_bool HR2.out.symm, hbw.trans ((((Below.refl _ _).alloc (Nat.le_refl _) _).alloc (by simp) _).trans (hb2.mono (by simp; omega)) |>.mono hbw.size)⟩
        · have HR2 : Hid (R = M.allTwo M.sameFrg (xs.drop (k + 1)) (ys.drop (k + 1))) := HR1
          clear HR1
          go_wp2_with (go_at_call 46; refine (HS.out _ (((Below.refl _ _).alloc (Nat.le_refl _) _).alloc (by simp) _)).mono ?_; rintro e w2 ⟨rfl, hb2⟩)
          go_roundw
          case rel => exact ⟨k + 1, by omega, by go_num, hbw.trans ((((Below.refl _ _).alloc (Nat.le_refl _) _).alloc (by simp) _).trans (hb2.mono (by simp; omega)) |>.mono hbw.size), HR2⟩
          case measure => simp [intOf]; omega
      · have HR0 : Hid (R = true) := by
          have := HR.out
          have h1' : xs.length ≤ k := by omega
          have h2' : ys.length ≤ k := by rw [HL.out]; omega
          rw [List.drop_of_length_le h1', List.drop_of_length_le h2'] at this
          exact this
        clear HR
        go_wp2
        go_ret
        exact ⟨ret_bool HR0.out.symm, HB.out⟩
  · have HX : Hid (M.allTwo M.sameFrg xs ys = false) := allTwo_len _ _ _ hlen
    generalize M.allTwo M.sameFrg xs ys = R at *
    clear h1 h2
    generalize xs.length = n at *
    generalize ys.length = m at *
    have hne : (n != m) = true := by rw [bne_iff_ne]; exact hlen
    have hni : ¬ (n : Int) = (m : Int) := by omega
    clear hlen
    go_enter Try.func45, Try.ntmps45
    go_wp2
    go_ret
    exact ⟨ret_bool HX.out.symm, Below.refl _ _⟩

set_option maxHeartbeats 1000000 in
set_option maxRecDepth 100000 in
theorem same_any (fs fs' : List M.Frg) (ds ds' : List M.Dfn) (a1 a2 a3 a4 : Option Addr) (c1 c2 c3 c4 : Nat) (w : World) (h1 : FragsAt w (.slice a1 fs.length c1) fs) (h2 : DefsAt w (.slice a2 ds.length c2) ds)
    (h3 : FragsAt w (.slice a3 fs'.length c3) fs') (h4 : DefsAt w (.slice a4 ds'.length c4) ds') :
    Calls Try.prog 10 #[.agg #[.slice a1 fs.length c1, .slice a2 ds.length c2], .agg #[.slice a3 fs'.length c3, .slice a4 ds'.length c4]] w fun e w' =>
      e = .returned (.bool (M.samePart ⟨fs, ds⟩ ⟨fs', ds'⟩)) ∧ Below w.heap.size w w' := by
  have HF : Hid (∀ W, Below w.heap.size w W → Calls Try.prog 45 #[.slice a1 fs.length c1, .slice a3 fs'.length c3, .func (.func 46) #[] #[]] W fun e w' =>
      e = .returned (.bool (M.allTwo M.sameFrg fs fs')) ∧ Below W.heap.size W w') := fun W hW => eqFunc_any fs fs' a1 a3 c1 c3 W (h1.later hW) (h3.later hW)
  have HD : Hid (∀ W, Below w.heap.size w W → Calls Try.prog 47 #[.slice a2 ds.length c2, .slice a4 ds'.length c4] W fun e w' =>
      e = .returned (.bool (M.allTwo M.sameDfn ds ds')) ∧ Below W.heap.size W w') := fun W hW => eqDefs_any ds ds' a2 a4 c2 c4 W (h2.later hW) (h4.later hW)
  have HX : Hid (M.samePart ⟨fs, ds⟩ ⟨fs', ds'⟩ = (M.allTwo M.sameFrg fs fs' && M.allTwo M.sameDfn ds ds')) := rfl
  clear h1 h2 h3 h4
  generalize M.samePart ⟨fs, ds⟩ ⟨fs', ds'⟩ = R at *
  generalize M.allTwo M.sameFrg fs fs' = r1 at *
  generalize M.allTwo M.sameDfn ds ds' = r2 at *
  generalize fs.length = n1 at *
  generalize fs'.length = n2 at *
  generalize ds.length = n3 at *
  generalize ds'.length = n4 at *
  cases r1
  · go_enter Try.func10, Try.ntmps10
    go_wp2_with (go_at_call 45; refine (HF.out _ (((Below.refl _ _).alloc (Nat.le_refl _) _).alloc (by simp) _)).mono ?_; rintro e w1 ⟨rfl, hb1⟩; obtain ⟨hc1, hf1⟩ := bcell hb1)
    go_ret
    exact ⟨ret_bool HX.out.symm, (((Below.refl _ _).alloc (Nat.le_refl _) _).alloc (by simp) _).trans (hb1.mono (by simp; omega))⟩
  · go_enter Try.func10, Try.ntmps10
    go_wp2_with (first | (go_at_call 45; refine (HF.out _ (((Below.refl _ _).alloc (Nat.le_refl _) _).alloc (by simp) _)).mono ?_; rintro e w1 ⟨rfl, hb1⟩; obtain ⟨hc1, hf1⟩ := bcell hb1) | (go_at_call 47; refine (HD.out _ ((((Below.refl _ _).alloc (Nat.le_refl _) _).alloc (by simp) _).trans (hb1.mono (by simp; omega)))).mono ?_; rintro e w2 ⟨rfl, hb2⟩))
    go_ret
    exact ⟨ret_bool HX.out.symm, (((Below.refl _ _).alloc (Nat.le_refl _) _).alloc (by simp) _).trans ((hb1.trans (hb2.mono hb1.size)).mono (by simp; omega))⟩

end Go.Proofs.Ytebhbhbhcoijpaa
