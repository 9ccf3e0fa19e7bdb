/-
  What ArchivePlain's law calls: slices.EqualFunc at parts with obj.Same, slices.Clone at texts, slices.ContainsFunc at definitions with the law's own function.
-/
import Derived.Test.YtebhbhbhcoijpaaArChX
import Derived.Test.YtebhbhbhcoijpaaArFx
import Derived.Test.YtebhbhbhcoijpaaSameAll
namespace Go.Proofs.Ytebhbhbhcoijpaa
open Go Go.RowKit
set_option linter.unusedVariables false

theorem parts_step {xs ys : List M.Prt} {k : Nat} (hx : k < xs.length) (hy : k < ys.length) :
    M.allTwo M.samePart (xs.drop k) (ys.drop k) = (M.samePart (xs.getD k M.nil) (ys.getD k M.nil) && M.allTwo M.samePart (xs.drop (k + 1)) (ys.drop (k + 1))) := by
  rw [drop_getD xs M.nil k hx, drop_getD ys M.nil k hy]; rfl
theorem parts_len : ∀ (xs ys : List M.Prt), ¬ xs.length = ys.length → M.allTwo M.samePart xs ys = false
  | [], [], h => absurd rfl h
  | [], _ :: _, _ => rfl
  | _ :: _, [], _ => rfl
  | x :: xs, y :: ys, h => by
    have := parts_len xs ys (by simpa using h)
    show (_ && M.allTwo M.samePart xs ys) = false
    rw [this, Bool.and_false]

set_option maxHeartbeats 4000000 in
set_option maxRecDepth 100000 in
theorem equalParts_any (xs ys : List M.Prt) (a1 a2 : Option Addr) (c1 c2 : Nat) (w : World) (h1 : PartsAt w (.slice a1 xs.length c1) xs) (h2 : PartsAt w (.slice a2 ys.length c2) ys) :
    Calls Try.prog 41 #[.slice a1 xs.length c1, .slice a2 ys.length c2, .func (.func 10) #[] #[]] w fun e w' => e = .returned (.bool (M.allTwo M.samePart xs ys)) ∧ Below w.heap.size w w' := by
  have hx : xs.length ≤ maxLen := by obtain ⟨_, h, _⟩ := h1; obtain ⟨_, _, _, h⟩ := h.form; exact h
  have hy : ys.length ≤ maxLen := by obtain ⟨_, h, _⟩ := h2; obtain ⟨_, _, _, h⟩ := h.form; exact h
  unfold maxLen at hx hy
  by_cases hlen : xs.length = ys.length
  · have HX : Hid (M.allTwo M.samePart xs ys = M.allTwo M.samePart (xs.drop 0) (ys.drop 0)) := rfl
    generalize M.allTwo M.samePart xs ys = R at *
    have HL : Hid (ys.length = xs.length) := hlen.symm
    have HP : Hid (∀ W, Below w.heap.size w W → PartsAt W (.slice a1 xs.length c1) xs ∧ PartsAt W (.slice a2 ys.length c2) ys) := fun W hW => ⟨h1.later hW, h2.later hW⟩
    rw [← hlen] at hy ⊢
    clear hlen h1 h2
    go_enter Try.func41, Try.ntmps41
    go_wp2_with fail
    go_loopw [17] (fun s17 wr => ∃ (k : Nat), k ≤ xs.length ∧ s17 = .int .i64 k ∧ Hid (Below w.heap.size w wr) ∧ Hid (R = M.allTwo M.samePart (xs.drop k) (ys.drop k))) (fun s17 _ => xs.length - (intOf s17).toNat)
    case atStart => exact ⟨0, Nat.zero_le _, rfl, Below.refl _ _, HX⟩
    case round =>
      obtain ⟨k, hk, rfl, HB, HR⟩ := hrel
      clear HX
      by_cases hlt : k < xs.length
      · have hky : k < ys.length := by rw [HL.out]; exact hlt
        obtain ⟨b, off, p1, p2, d1, d2, rfl, e0, e1, hf, hd⟩ := part_at (HP.out wr HB.out).1 k hlt
        obtain ⟨b', off', q1, q2, g1, g2, hae, e0', e1', hf', hd'⟩ := part_at (HP.out wr HB.out).2 k hky
        subst hae
        have hkl : (k : Int) < (xs.length : Int) := by omega
        have hbr : b < wr.heap.size := World.block_lt_of_cell? _ _ e0
        have hbr' : b' < wr.heap.size := World.block_lt_of_cell? _ _ e0'
        have HR1 := HR.out
        rw [parts_step hlt hky] at HR1
        have HR2 : Hid _ := HR1
        have HK : Hid (∀ W, Below wr.heap.size wr W → Calls Try.prog 10 #[.agg #[.slice p1 (xs.getD k M.nil).frags.length d1, .slice p2 (xs.getD k M.nil).defs.length d2], .agg #[.slice q1 (ys.getD k M.nil).frags.length g1, .slice q2 (ys.getD k M.nil).defs.length g2]] W fun e w' => e = .returned (.bool (M.samePart (xs.getD k M.nil) (ys.getD k M.nil))) ∧ Below W.heap.size W w') := fun W hW => same_any _ _ _ _ _ _ _ _ _ _ _ _ W (hf.later hW) (hd.later hW) (hf'.later hW) (hd'.later hW)
        have hA1 : Below wr.heap.size wr (wr.alloc (.cells #[.slice p1 (xs.getD k M.nil).frags.length d1, .slice p2 (xs.getD k M.nil).defs.length d2] 25)) := (Below.refl _ _).alloc (Nat.le_refl _) _
        have hA2 : Below wr.heap.size wr ((wr.alloc (.cells #[.slice p1 (xs.getD k M.nil).frags.length d1, .slice p2 (xs.getD k M.nil).defs.length d2] 25)).alloc (.cells #[.slice q1 (ys.getD k M.nil).frags.length g1, .slice q2 (ys.getD k M.nil).defs.length g2] 25)) := hA1.alloc hA1.size _
        have HA2 : Hid _ := hA2
        clear HR HR1 hf hd hf' hd' hA1
        generalize M.samePart (xs.getD k M.nil) (ys.getD k M.nil) = sm at *
        generalize xs.getD k M.nil = x at *
        generalize ys.getD k M.nil = y at *
        cases sm
        · obtain rfl : R = false := HR2.out
          clear HR2
          go_wp2_with (go_at_call 10; refine (HK.out _ HA2.out).mono ?_; rintro e w1 ⟨rfl, hb1⟩)
          go_ret
          exact ⟨rfl, HB.out.trans ((HA2.out.trans (hb1.mono HA2.out.size)).mono HB.out.size)⟩
        · have HR3 : Hid (R = M.allTwo M.samePart (xs.drop (k + 1)) (ys.drop (k + 1))) := HR2.out
          clear HR2
          go_wp2_with (go_at_call 10; refine (HK.out _ HA2.out).mono ?_; rintro e w1 ⟨rfl, hb1⟩)
          go_roundw
          case rel => exact ⟨k + 1, by omega, by go_num, HB.out.trans ((HA2.out.trans (hb1.mono HA2.out.size)).mono HB.out.size), HR3⟩
          case measure => simp [intOf]; omega
      · have hkl : k = xs.length := by omega
        have HR2 : Hid (R = true) := by
          rw [Hid, HR.out, List.drop_eq_nil_of_le (by omega), List.drop_eq_nil_of_le (by rw [HL.out]; omega)]; rfl
        clear HR
        subst hkl
        go_wp2
        go_ret
        exact ⟨by rw [HR2.out]; rfl, HB.out⟩
  · have hl : ((xs.length : Int) != (ys.length : Int)) = true := by simp; omega
    have HX : Hid (M.allTwo M.samePart xs ys = false) := parts_len xs ys hlen
    clear hlen h1 h2
    go_enter Try.func41, Try.ntmps41
    go_wp2
    go_ret
    exact ⟨by rw [HX.out]; rfl, Below.refl _ _⟩

theorem ar_strs_src {w : World} {v : Value} {l : List ByteArray} (h : StrsAt w v l) : Src w v l.length (l.map Value.string) :=
  h.1.src (by decide) _ (by simp) (fun j i hj hi => by
    obtain rfl : i = 0 := by omega
    rw [Nat.mul_one, Nat.add_zero, List.getElem?_map, getElem?_getD l str0 j hj]; rfl)

set_option maxRecDepth 100000 in
theorem cloneS_any (l : List ByteArray) (a : Option Addr) (c : Nat) (w : World) (h : StrsAt w (.slice a l.length c) l) (hl : l.length ≤ 1000) :
    Calls Try.prog 39 #[.slice a l.length c] w fun e w' => Below w.heap.size w w' ∧ ∃ v, e = .returned v ∧ w'.ownsRow w.heap.size 9 1 v l.length (l.map Value.string) := by
  obtain ⟨i0, hi0, hz0, hz1, hz2⟩ := info_parts (P := Try.prog) (e := 9) (z := .string ⟨#[]⟩) (size := 1) (bytes := 16) (by kernel_rfl)
  have heq := fun W => Lib.run_eql_slice_nil (P := Try.prog) W 35 9 a l.length c 0 0 Try.underlying35
  cases a with
  | none =>
    have h0 : l.length = 0 := by
      obtain ⟨_, _, e, _, h⟩ := h.1
      cases e
      rcases h with h | ⟨_, _, h, _⟩
      · exact h
      · cases h
    have hn : l = [] := List.length_eq_zero_iff.1 h0
    subst hn
    clear h h0 heq
    have heq := fun W => Lib.run_eql_slice_nil (P := Try.prog) W 35 9 none 0 c 0 0 Try.underlying35
    rw [show ([] : List ByteArray).length = 0 from rfl]
    go_enter Try.func39, Try.ntmps39
    go_wp2
    go_ret
    exact ⟨Below.refl _ _, _, rfl, World.ownsRow_nil _ _ _ _⟩
  | some ad =>
    have hsrc := (ar_strs_src h).alloc (.cells #[] 9)
    have hown : (w.alloc (.cells #[] 9)).ownsRow w.heap.size 9 1 (.slice (some ⟨w.heap.size, 0, none⟩) 0 0) 0 [] := own_empty (heap_alloc_new _ _) (Nat.le_refl _)
    clear h
    go_enter Try.func39, Try.ntmps39
    go_wp2_with (at_builtin; refine wpList_append_src _ rfl _ _ 35 rfl w.heap.size 9 i0 (.string ⟨#[]⟩) 1 16 Try.underlying35 hi0 hz0 hz1 hz2 rfl (by decide) _ 0 [] rfl hown _ l.length (l.map Value.string) rfl hsrc (by simp) (fun u hu => by obtain ⟨b, _, rfl⟩ := List.mem_map.1 hu; rfl) (by unfold maxLen; omega) (by omega) (by simp) ?_; intro v1 w1 ho1 hg1)
    go_ret
    have hB : Below w.heap.size w w1 := ((Below.refl w.heap.size w).alloc (Nat.le_refl _) _).grown hg1 (by simp) (fun j hj => by cases hj; exact Nat.le_refl _)
    rw [Nat.zero_add, List.nil_append] at ho1
    exact ⟨hB, _, rfl, ho1⟩

/-- a variable holds texts -/
def LkVar (w : World) (n : Nat) (l : List ByteArray) : Prop := ∃ a c, w.cell? ⟨n, 0, none⟩ = some (.slice a l.length c) ∧ StrsAt w (.slice a l.length c) l
theorem LkVar.later {w w' : World} {n : Nat} {l : List ByteArray} (h : LkVar w n l) (hb : Below w.heap.size w w') : LkVar w' n l :=
  let ⟨a, c, h1, h2⟩ := h
  ⟨a, c, cell_later hb h1, h2.later hb⟩

theorem plainFn_any (d : M.Dfn) (n : Nat) (l : List ByteArray) (w : World) (hs : LkVar w n l) :
    Calls Try.prog 40 #[.agg #[.string d.name, .int .i64 d.kind, .int .i64 d.frag, .int .i64 d.pos, .int .i64 d.size, .int .i64 d.align], .pointer (some ⟨n, 0, none⟩)] w fun e w' => e = .returned (.bool (M.has l d.name)) ∧ Below w.heap.size w w' := by
  obtain ⟨nm, kd, fr, pos, sz, al⟩ := d
  obtain ⟨a, c, hc, hl⟩ := hs
  have hA : Below w.heap.size w (w.alloc (.cells #[.string nm, .int .i64 kd, .int .i64 fr, .int .i64 pos, .int .i64 sz, .int .i64 al] 69)) := (Below.refl _ _).alloc (Nat.le_refl _) _
  have hnw : n < w.heap.size := World.block_lt_of_cell? _ _ hc
  have HK : Hid (Calls Try.prog 17 #[.slice a l.length c, .string nm] (w.alloc (.cells #[.string nm, .int .i64 kd, .int .i64 fr, .int .i64 pos, .int .i64 sz, .int .i64 al] 69)) fun e w' => e = .returned (.bool (M.has l nm)) ∧ w' = (w.alloc (.cells #[.string nm, .int .i64 kd, .int .i64 fr, .int .i64 pos, .int .i64 sz, .int .i64 al] 69))) := containsS_any l nm a c _ (hl.later hA)
  simp only
  generalize M.has l nm = R at *
  clear hl
  go_enter Try.func40, Try.ntmps40
  go_wp2_with (go_at_call 17; refine HK.out.mono ?_; rintro e w1 ⟨rfl, rfl⟩)
  go_ret
  exact ⟨rfl, hA⟩

set_option maxHeartbeats 1000000 in
set_option maxRecDepth 100000 in
theorem indexPlain_any (l : List M.Dfn) (a : Option Addr) (c n : Nat) (ll : List ByteArray) (w : World) (h : DefsAt w (.slice a l.length c) l) (hs : LkVar w n ll) :
    Calls Try.prog 77 #[.slice a l.length c, .func (.func 40) #[] #[.pointer (some ⟨n, 0, none⟩)]] w fun e w' => (∃ x, e = .returned (.int .i64 x) ∧ decide (0 ≤ x) = l.any (fun d => M.has ll d.name)) ∧ Below w.heap.size w w' := by
  have hn : l.length ≤ maxLen := by obtain ⟨_, _, _, h⟩ := h.1.form; exact h
  unfold maxLen at hn
  have HH : Hid (∀ W, Below w.heap.size w W → DefsAt W (.slice a l.length c) l ∧ LkVar W n ll) := fun W hW => ⟨h.later hW, hs.later hW⟩
  clear h hs
  have HA0 : Hid ((l.take 0).any (fun d => M.has ll d.name) = false) := rfl
  go_enter Try.func77, Try.ntmps77
  go_wp2_with fail
  go_loopw [8] (fun s8 wr => ∃ (k : Nat), k ≤ l.length ∧ s8 = .int .i64 k ∧ Hid ((l.take k).any (fun d => M.has ll d.name) = false) ∧ Hid (Below w.heap.size w wr)) (fun s8 _ => l.length - (intOf s8).toNat)
  case atStart => exact ⟨0, Nat.zero_le _, rfl, HA0, Below.refl _ _⟩
  case round =>
    obtain ⟨k, hk, rfl, HA, HB⟩ := hrel
    clear HA0
    by_cases hlt : k < l.length
    · obtain ⟨bb, off, rfl, e0, e1, e2, e3, e4, e5, hnm⟩ := (HH.out wr HB.out).1.cells k hlt
      have hkl : (k : Int) < (l.length : Int) := by omega
      have KC : Hid (Calls Try.prog 40 #[.agg #[.string (l.getD k dfn0).name, .int .i64 (l.getD k dfn0).kind, .int .i64 (l.getD k dfn0).frag, .int .i64 (l.getD k dfn0).pos, .int .i64 (l.getD k dfn0).size, .int .i64 (l.getD k dfn0).align], .pointer (some ⟨n, 0, none⟩)] wr fun e w' => e = .returned (.bool (M.has ll (l.getD k dfn0).name)) ∧ Below wr.heap.size wr w') := plainFn_any _ n ll wr (HH.out wr HB.out).2
      have HN : Hid ((l.take (k + 1)).any (fun d => M.has ll d.name) = M.has ll (l.getD k dfn0).name) := by
        rw [Hid, List.take_succ_eq_append_getElem hlt, List.any_append, HA.out, List.getD_eq_getElem?_getD, List.getElem?_eq_getElem hlt]; simp
      have HT : Hid (M.has ll (l.getD k dfn0).name = true → l.any (fun d => M.has ll d.name) = true) := fun h => List.any_eq_true.2 ⟨_, getD_mem l dfn0 k hlt, h⟩
      clear HA
      generalize M.has ll (l.getD k dfn0).name = R at *
      generalize l.getD k dfn0 = d at *
      obtain ⟨nm, kd, fr, pos, sz, al⟩ := d
      simp only at e0 e1 e2 e3 e4 e5 KC
      cases R
      · clear HT
        go_wp2_with (go_at_call 40; refine KC.out.mono ?_; rintro e w1 ⟨rfl, hb1⟩)
        go_roundw
        case rel => exact ⟨k + 1, by omega, by go_num, HN, HB.out.trans (hb1.mono HB.out.size)⟩
        case measure => simp [intOf]; omega
      · have hany := HT.out rfl
        have HAn : Hid _ := hany
        clear HT hany HN
        go_wp2_with (go_at_call 40; refine KC.out.mono ?_; rintro e w1 ⟨rfl, hb1⟩)
        go_ret
        exact ⟨⟨_, rfl, by rw [HAn.out]; simp⟩, HB.out.trans (hb1.mono HB.out.size)⟩
    · obtain rfl : k = l.length := by omega
      have HAn : Hid (l.any (fun d => M.has ll d.name) = false) := by have := HA.out; rwa [List.take_length] at this
      clear HA
      go_wp2
      go_ret
      exact ⟨⟨_, rfl, by rw [HAn.out]; decide⟩, HB.out⟩

theorem containsPlain_any (l : List M.Dfn) (a : Option Addr) (c n : Nat) (ll : List ByteArray) (w : World) (h : DefsAt w (.slice a l.length c) l) (hs : LkVar w n ll) :
    Calls Try.prog 35 #[.slice a l.length c, .func (.func 40) #[] #[.pointer (some ⟨n, 0, none⟩)]] w fun e w' => e = .returned (.bool (l.any (fun d => M.has ll d.name))) ∧ Below w.heap.size w w' := by
  have KI := indexPlain_any l a c n ll w h hs
  generalize l.any (fun d => M.has ll d.name) = R at *
  clear h hs
  have HK : Hid _ := KI
  clear KI
  go_enter Try.func35, Try.ntmps35
  go_wp2_with (go_at_call 77; refine Calls.mono HK.out ?_; rintro e w1 ⟨⟨x, rfl, hx⟩, hb1⟩)
  go_ret
  exact ⟨by simp_all, hb1⟩

end Go.Proofs.Ytebhbhbhcoijpaa
