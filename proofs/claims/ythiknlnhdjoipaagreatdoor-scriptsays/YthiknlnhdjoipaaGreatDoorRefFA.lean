/-
  The contracts of the reference's small functions: WideOf, IsAlign, IsName. The contract of the reference's checkFrag. The reference's checkFrag, where its lengths or its form are wrong. The reference's checkFrag, where its form is wrong.
-/
import Derived.Test.YthiknlnhdjoipaaGreatDoorCheckA
import Derived.Test.YthiknlnhdjoipaaGreatDoorShelf
import Derived.Maps.OwnOps

namespace Go.Proofs.YthiknlnhdjoipaaGreatDoor
open Go.RowKit Go.Maps
set_option linter.unusedVariables false

theorem wpList_insert_own {H : Type} {P : Program} (w : World) {ops : Array Oper} {rest : List Oper} {o : Oper} {a : Act} {Q : Exit → Act → World → Prop}
    (hg : o.guard = none) (m x v : Operand) (t : TypeId) (hop : o.op = Op.insert t m x v)
    (k e : TypeId) (K : Keyed P k) (ht : P.underlying t = some (.map k e)) (R : Value → Option (DataW H × List MemPlace)) (b n : Nat) (D : DataW H)
    (hm : a.eval m = .map (some b)) (hown : w.ownsMap P k R b n D) (hn : n < maxLen) (key val : Value) (kl : Lit) (hx : a.eval x = key) (hv : a.eval v = val) (hkey : keyOf P k key = some kl)
    (d : DataW H) (ps : List MemPlace) (hval : R val = some (d, ps))
    (hK : ∀ w', w'.ownsMap P k R b (n + 1) (D.put kl d) → w.grownBy w' (some b) → wpList P ops Q rest (a.put o.dst undef) w') :
    wpList P ops Q (o :: rest) a w := by
  refine wpList_plain hg fun K' hK' => ?_
  obtain ⟨w', hrun, r1, r2⟩ := hown.update K ht hn hkey hval
  unfold Oper.wp
  simp [execOp, hop, hm, hx, hv, hrun, Result.andThen]
  exact hK' _ _ (hK w' r1 r2)

theorem law3 : Keyed Tryz.prog 3 := int_keyed Tryz.underlying3
theorem zero3 (w : World) : (zeroValue 3).run Tryz.prog w = .ok (.int .i64 0) w := by kernel_rfl

def wideMap : DataW Unit := ((((DataW.map []).put (.int .i64 1) (.lit (.int .i64 1))).put (.int .i64 2) (.lit (.int .i64 2))).put (.int .i64 3) (.lit (.int .i64 1))).put (.int .i64 4) (.lit (.int .i64 2))

theorem wideMap_eq : wideMap = .map [(.int .i64 1, .lit (.int .i64 1)), (.int .i64 2, .lit (.int .i64 2)), (.int .i64 3, .lit (.int .i64 1)), (.int .i64 4, .lit (.int .i64 2))] := by
  kernel_rfl

theorem wideMap_at (n c : Int) (h : wideMap.atKey (.int .i64 n) (.lit (.int .i64 0)) = .lit (.int .i64 c)) : M.wide n = c := by
  rw [wideMap_eq] at h
  by_cases h1 : n = 1
  · subst h1; simpa [DataW.atKey, Lit.sameKey, M.wide] using h
  by_cases h2 : n = 2
  · subst h2; simpa [DataW.atKey, Lit.sameKey, M.wide] using h
  by_cases h3 : n = 3
  · subst h3; simpa [DataW.atKey, Lit.sameKey, M.wide] using h
  by_cases h4 : n = 4
  · subst h4; simpa [DataW.atKey, Lit.sameKey, M.wide] using h
  have g1 : ¬ 1 = n := fun e => h1 e.symm
  have g2 : ¬ 2 = n := fun e => h2 e.symm
  have g3 : ¬ 3 = n := fun e => h3 e.symm
  have g4 : ¬ 4 = n := fun e => h4 e.symm
  simpa [DataW.atKey, Lit.sameKey, M.wide, h1, h2, h3, h4, g1, g2, g3, g4] using h

set_option maxRecDepth 100000 in
theorem wideOf_any (n : Int) (w : World) (hn : (Lit.int .i64 n).wf = true) :
    Calls Tryz.prog 50 #[.int .i64 n] w fun e w' => e = .returned (.int .i64 (M.wide n)) ∧ Below w.heap.size w w' := by
  have hmm := @run_makeMap Tryz.prog
  go_enter Tryz.func50, Tryz.ntmps50
  go_wp2_with (first | (refine wpList_insert_own (H := Unit) _ rfl _ _ _ 126 rfl 3 3 law3 Tryz.underlying126 _ w.heap.size 3 _ rfl hown3 (by unfold maxLen; decide) _ _ _ rfl rfl (keyOf_int_mk Tryz.underlying3 (by decide)) _ [] (plainElem_int Tryz.underlying3 (by decide)) ?_; intro w4 hown4 hg4) | (refine wpList_insert_own (H := Unit) _ rfl _ _ _ 126 rfl 3 3 law3 Tryz.underlying126 _ w.heap.size 2 _ rfl hown2 (by unfold maxLen; decide) _ _ _ rfl rfl (keyOf_int_mk Tryz.underlying3 (by decide)) _ [] (plainElem_int Tryz.underlying3 (by decide)) ?_; intro w3 hown3 hg3) | (refine wpList_insert_own (H := Unit) _ rfl _ _ _ 126 rfl 3 3 law3 Tryz.underlying126 _ w.heap.size 1 _ rfl hown1 (by unfold maxLen; decide) _ _ _ rfl rfl (keyOf_int_mk Tryz.underlying3 (by decide)) _ [] (plainElem_int Tryz.underlying3 (by decide)) ?_; intro w2 hown2 hg2) | (refine wpList_insert_own (H := Unit) _ rfl _ _ _ 126 rfl 3 3 law3 Tryz.underlying126 _ w.heap.size 0 _ rfl (World.ownsMap_made _ _ _ _) (by unfold maxLen; decide) _ _ _ rfl rfl (keyOf_int_mk Tryz.underlying3 (by decide)) _ [] (plainElem_int Tryz.underlying3 (by decide)) ?_; intro w1 hown1 hg1) | (at_lookup; refine wpList_lookup_own_int _ rfl _ _ 126 rfl 3 3 .i64 law3 Tryz.underlying126 Tryz.underlying3 (zero3 _) w.heap.size 4 _ rfl hown4 _ _ rfl (keyOf_int_mk Tryz.underlying3 hn) ?_; intro c hat hwc))
  go_ret
  have hb : Below w.heap.size w w4 := by
    have h0 := (Below.refl w.heap.size w).alloc (Nat.le_refl _) (.map #[] 0)
    have h1 := h0.grown hg1 (by simp) (fun j hj => by cases hj; exact Nat.le_refl _)
    have h2 := h1.grown hg2 h1.size (fun j hj => by cases hj; exact Nat.le_refl _)
    have h3 := h2.grown hg3 h2.size (fun j hj => by cases hj; exact Nat.le_refl _)
    exact h3.grown hg4 h3.size (fun j hj => by cases hj; exact Nat.le_refl _)
  exact ⟨ret_int (wideMap_at n c hat).symm, hb⟩

theorem align_contains (n : Int) : ([1, 2, 4, 8] : List Int).contains n = M.isAlign n := by
  simp only [List.contains, List.elem, M.isAlign]
  cases n == 1 <;> cases n == 2 <;> cases n == 4 <;> cases n == 8 <;> rfl

theorem isAlign_any (n : Int) (w : World) :
    Calls Tryz.prog 25 #[.int .i64 n] w fun e w' => e = .returned (.bool (M.isAlign n)) ∧ Below w.heap.size w w' := by
  have HC : Hid (∀ W : World, Calls Tryz.prog 51 #[.slice (some ⟨W.heap.size, 0, none⟩) 4 4, .int .i64 n] (W.alloc (.cells #[.int .i64 1, .int .i64 2, .int .i64 4, .int .i64 8] 3)) fun e w' => e = .returned (.bool (M.isAlign n)) ∧ w' = W.alloc (.cells #[.int .i64 1, .int .i64 2, .int .i64 4, .int .i64 8] 3)) := fun W => by
    rw [← align_contains]
    refine Any.slices_Contains_int Tryz.lays107 W.heap.size 0 4 4 [1, 2, 4, 8] n (W.alloc (.cells #[.int .i64 1, .int .i64 2, .int .i64 4, .int .i64 8] 3)) (by decide) (by decide) (fun j hj => ?_)
    rw [World.cell?_alloc_at _ _ _ _ rfl]
    have : j = 0 ∨ j = 1 ∨ j = 2 ∨ j = 3 := by simp at hj; omega
    rcases this with rfl | rfl | rfl | rfl <;> rfl
  go_enter Tryz.func25, Tryz.ntmps25
  go_wp2_with (go_at_call 51; refine (HC.out _).mono ?_; rintro e w' ⟨rfl, rfl⟩)
  go_ret
  exact ⟨rfl, (Below.refl _ _).alloc (Nat.le_refl _) _⟩

def letters : List UInt8 := [97, 98, 99, 100, 101, 102, 103, 104, 105, 106, 107, 108, 109, 110, 111, 112, 113, 114, 115, 116, 117, 118, 119, 120, 121, 122, 48, 49, 50, 51, 52, 53, 54, 55, 56, 57, 95]

theorem letters_contains (c : UInt8) : letters.contains c = M.nameByte c.toNat := by
  have h : ∀ n : Fin 256, letters.contains (UInt8.ofNat n.val) = M.nameByte (n.val : Nat) := by decide +kernel
  have := h ⟨c.toNat, c.toNat_lt⟩
  simpa using this

theorem dropWhile_nil_iff (p : UInt8 → Bool) : ∀ l : List UInt8, (l.dropWhile p).isEmpty = l.all p
  | [] => rfl
  | x :: l => by
    cases h : p x
    · simp [h]
    · simp only [List.dropWhile_cons, h, if_true, List.all_cons, Bool.true_and]
      exact dropWhile_nil_iff p l

theorem dropWhile_head (p : UInt8 → Bool) : ∀ l : List UInt8, (l.dropWhile p).all p = (l.dropWhile p).isEmpty
  | [] => rfl
  | x :: l => by
    cases h : p x
    · simp [h]
    · simp only [List.dropWhile_cons, h, if_true]
      exact dropWhile_head p l

theorem trim_empty (l : List UInt8) : (Lib.trimS l letters).isEmpty = l.all fun c => M.nameByte c.toNat := by
  have hp : (fun c : UInt8 => M.nameByte c.toNat) = fun c => letters.contains c := by funext c; exact (letters_contains c).symm
  rw [hp]
  simp only [Lib.trimS, Lib.trimLeftS, Lib.trimRightS]
  rw [dropWhile_nil_iff, List.all_reverse, dropWhile_head, dropWhile_nil_iff, List.all_reverse]

set_option maxHeartbeats 400000 in
theorem isName_any (s : ByteArray) (w : World) (hs : s.size ≤ maxLen) :
    Calls Tryz.prog 24 #[.string s] w fun e w' => e = .returned (.bool (M.isName s)) ∧ Below w.heap.size w w' := by
  have HC : Hid (∀ W : World, Calls Tryz.prog 38 #[.string s, .string ⟨#[97, 98, 99, 100, 101, 102, 103, 104, 105, 106, 107, 108, 109, 110, 111, 112, 113, 114, 115, 116, 117, 118, 119, 120, 121, 122, 48, 49, 50, 51, 52, 53, 54, 55, 56, 57, 95]⟩] W fun e w' =>
      e = .returned (.string ⟨(Lib.trimS s.data.toList letters).toArray⟩) ∧ Below W.heap.size W w') := fun W =>
    Any.strings_Trim_laid Tryz.lays160 (by kernel_rfl) s ⟨#[97, 98, 99, 100, 101, 102, 103, 104, 105, 106, 107, 108, 109, 110, 111, 112, 113, 114, 115, 116, 117, 118, 119, 120, 121, 122, 48, 49, 50, 51, 52, 53, 54, 55, 56, 57, 95]⟩ W hs (by decide) (ascii_of_all (by decide))
  unfold maxLen at hs
  have HT : Hid ((Lib.trimS s.data.toList letters).isEmpty = s.data.toList.all fun c => M.nameByte c.toNat) := trim_empty _
  generalize Lib.trimS s.data.toList letters = t at *
  by_cases h1 : 1 ≤ s.size
  · by_cases h2 : s.size ≤ 8
    · have HX : Hid (M.isName s = t.isEmpty) := by rw [Hid, HT.out]; simp [M.isName, h1, h2]
      go_enter Tryz.func24, Tryz.ntmps24
      go_wp2_with (go_at_call 38; refine (HC.out _).mono ?_; rintro e w' ⟨rfl, hb⟩)
      go_ret
      exact ⟨ret_bool (by rw [HX.out]), hb⟩
    · have HX : Hid (M.isName s = false) := by simp [Hid, M.isName, h2]
      go_enter Tryz.func24, Tryz.ntmps24
      go_wp2
      go_ret
      exact ⟨ret_bool HX.out.symm, Below.refl _ _⟩
  · have HX : Hid (M.isName s = false) := by simp [Hid, M.isName, h1]
    go_enter Tryz.func24, Tryz.ntmps24
    go_wp2
    go_ret
    exact ⟨ret_bool HX.out.symm, Below.refl _ _⟩

end Go.Proofs.YthiknlnhdjoipaaGreatDoor

namespace Go.Proofs.YthiknlnhdjoipaaGreatDoor
open Go.RowKit
set_option linter.unusedVariables false

theorem tst_lt {a b : Int} (h : a < b) : decide (a < b) = true := decide_eq_true h
theorem tst_ge {a b : Int} (h : b ≤ a) : decide (a < b) = false := decide_eq_false (by omega)

theorem lt_of_alloc {w w1 : World} {o : Obj} (hb : Below (w.alloc o).heap.size (w.alloc o) w1) : w.heap.size < w1.heap.size := by
  have := hb.size
  simp at this
  omega

set_option maxHeartbeats 2000000 in
/-- an early answer: what is wrong ahead of the places -/
theorem rfrag_out (s al sz : Int) (g : ByteArray) (n1 m1 : Nat) (ab ar : Option Addr) (cb cr : Nat) (many : Int) (w : World) (hg : g.size ≤ maxLen)
    (R : Int) (hR : R = 3 ∧ (M.within s 1 5 = false ∨ M.within s 1 5 = true ∧ M.isAlign al = false)
      ∨ R = 1 ∧ M.within s 1 5 = true ∧ M.isAlign al = true ∧ g.toList.isEmpty = false ∧ M.isName g = false) :
    Calls Tryz.prog 23 #[.agg #[.int .i64 s, .int .i64 al, .string g, .slice ab n1 cb, .int .i64 sz, .slice ar m1 cr], .int .i64 many] w fun e w' =>
      e = .returned (.int .i64 R) ∧ Below w.heap.size w w' := by
  rcases hR with ⟨rfl, h | ⟨h, ha⟩⟩ | ⟨rfl, h, ha, hg1, hg2⟩
  · have h' : s < 1 ∨ (1 ≤ s ∧ 5 < s) := by simp [M.within] at h; omega
    clear h
    rcases h' with h1 | ⟨h1, h2⟩
    · have d1 := tst_lt h1
      go_enter Tryz.func23, Tryz.ntmps23
      go_wp2
      go_ret
      exact ⟨rfl, (Below.refl _ _).alloc (Nat.le_refl _) _⟩
    · have d1 := tst_ge h1
      have d2 := tst_lt h2
      go_enter Tryz.func23, Tryz.ntmps23
      go_wp2
      go_ret
      exact ⟨rfl, (Below.refl _ _).alloc (Nat.le_refl _) _⟩
  · have h' : 1 ≤ s ∧ s ≤ 5 := by simpa [M.within] using h
    have d1 := tst_ge h'.1
    have d2 := tst_ge h'.2
    clear h h'
    go_enter Tryz.func23, Tryz.ntmps23
    go_wp2_with (go_at_call 25; refine (isAlign_any _ _).mono ?_; rintro e w1 ⟨rfl, hb1⟩; obtain ⟨hc1, hf1⟩ := bcell hb1)
    go_ret
    exact ⟨rfl, ((Below.refl _ _).alloc (Nat.le_refl _) _).trans (hb1.mono (by simp))⟩
  · have h' : 1 ≤ s ∧ s ≤ 5 := by simpa [M.within] using h
    have d1 := tst_ge h'.1
    have d2 := tst_ge h'.2
    clear h h'
    go_enter Tryz.func23, Tryz.ntmps23
    go_wp2_with (first | (go_at_call 25; refine (isAlign_any _ _).mono ?_; rintro e w1 ⟨rfl, hb1⟩; obtain ⟨hc1, hf1⟩ := bcell hb1) | (go_at_call 24; refine (isName_any _ _ hg).mono ?_; rintro e w2 ⟨rfl, hb2⟩; obtain ⟨hc2, hf2⟩ := bcell hb2))
    go_ret
    exact ⟨rfl, ((Below.refl _ _).alloc (Nat.le_refl _) _).trans ((hb1.trans (hb2.mono hb1.size)).mono (by simp))⟩

end Go.Proofs.YthiknlnhdjoipaaGreatDoor

namespace Go.Proofs.YthiknlnhdjoipaaGreatDoor
open Go.RowKit
set_option linter.unusedVariables false

theorem beq_no {a b : Int} (h : ¬ a = b) : (a == b) = false := by simpa using h
theorem bne_yes {a b : Int} (h : ¬ a = b) : (a != b) = true := by simpa using h

set_option maxHeartbeats 4000000 in
theorem rfrag_many (s al sz : Int) (g : ByteArray) (n1 m1 : Nat) (ab ar : Option Addr) (cb cr : Nat) (many : Int) (w : World) (hg : g.size ≤ maxLen)
    (h : M.within s 1 5 = true) (ha : M.isAlign al = true) (hgr : g.toList.isEmpty = true ∨ (g.toList.isEmpty = false ∧ M.isName g = true))
    (hR : 64 < n1 ∨ n1 ≤ 64 ∧ 8 < m1) (hn1 : n1 ≤ maxLen) (hm1 : m1 ≤ maxLen) :
    Calls Tryz.prog 23 #[.agg #[.int .i64 s, .int .i64 al, .string g, .slice ab n1 cb, .int .i64 sz, .slice ar m1 cr], .int .i64 many] w fun e w' =>
      e = .returned (.int .i64 2) ∧ Below w.heap.size w w' := by
  unfold maxLen at hn1 hm1
  have h' : 1 ≤ s ∧ s ≤ 5 := by simpa [M.within] using h
  have d1 := tst_ge h'.1
  have d2 := tst_ge h'.2
  clear h h'
  rcases hR with h64 | ⟨h64, h8⟩
  · have d64 : decide (64 < (n1 : Int)) = true := tst_lt (by omega)
    rcases hgr with hgr1 | ⟨hgr1, hgr2⟩
    · go_enter Tryz.func23, Tryz.ntmps23
      go_wp2_with (first | (go_at_call 25; refine (isAlign_any _ _).mono ?_; rintro e w1 ⟨rfl, hb1⟩; obtain ⟨hc1, hf1⟩ := bcell hb1))
      go_ret
      exact ⟨rfl, ((Below.refl _ _).alloc (Nat.le_refl _) _).trans (hb1.mono (by simp))⟩
    · go_enter Tryz.func23, Tryz.ntmps23
      go_wp2_with (first | (go_at_call 25; refine (isAlign_any _ _).mono ?_; rintro e w1 ⟨rfl, hb1⟩; obtain ⟨hc1, hf1⟩ := bcell hb1; have hz1 := lt_of_alloc hb1) | (go_at_call 24; refine (isName_any _ _ hg).mono ?_; rintro e w2 ⟨rfl, hb2⟩; obtain ⟨hc2, hf2⟩ := bcell hb2))
      go_ret
      exact ⟨rfl, ((Below.refl _ _).alloc (Nat.le_refl _) _).trans ((hb1.trans (hb2.mono hb1.size)).mono (by simp))⟩
  · have d64 : decide (64 < (n1 : Int)) = false := tst_ge (by omega)
    have d8 : decide (8 < (m1 : Int)) = true := tst_lt (by omega)
    rcases hgr with hgr1 | ⟨hgr1, hgr2⟩
    · go_enter Tryz.func23, Tryz.ntmps23
      go_wp2_with (first | (go_at_call 25; refine (isAlign_any _ _).mono ?_; rintro e w1 ⟨rfl, hb1⟩; obtain ⟨hc1, hf1⟩ := bcell hb1))
      go_ret
      exact ⟨rfl, ((Below.refl _ _).alloc (Nat.le_refl _) _).trans (hb1.mono (by simp))⟩
    · go_enter Tryz.func23, Tryz.ntmps23
      go_wp2_with (first | (go_at_call 25; refine (isAlign_any _ _).mono ?_; rintro e w1 ⟨rfl, hb1⟩; obtain ⟨hc1, hf1⟩ := bcell hb1; have hz1 := lt_of_alloc hb1) | (go_at_call 24; refine (isName_any _ _ hg).mono ?_; rintro e w2 ⟨rfl, hb2⟩; obtain ⟨hc2, hf2⟩ := bcell hb2))
      go_ret
      exact ⟨rfl, ((Below.refl _ _).alloc (Nat.le_refl _) _).trans ((hb1.trans (hb2.mono hb1.size)).mono (by simp))⟩

end Go.Proofs.YthiknlnhdjoipaaGreatDoor

namespace Go.Proofs.YthiknlnhdjoipaaGreatDoor
open Go.RowKit
set_option linter.unusedVariables false

theorem frm_ways {s sz : Int} {n m : Nat} (h : frm s sz n m = false) :
    (s = 5 ∧ 0 < n) ∨ (s = 5 ∧ n = 0 ∧ 0 < m) ∨ (s = 5 ∧ n = 0 ∧ m = 0 ∧ sz < 0) ∨ (s = 5 ∧ n = 0 ∧ m = 0 ∧ 0 ≤ sz ∧ 64 < sz) ∨ (¬ s = 5 ∧ ¬ sz = 0) ∨ (s = 3 ∧ sz = 0 ∧ 0 < m) := by
  unfold frm at h
  by_cases h5 : s = 5
  · rw [if_pos h5] at h
    simp [M.within] at h
    omega
  · rw [if_neg h5] at h
    by_cases h3 : s = 3
    · rw [if_pos h3] at h
      simp at h
      omega
    · rw [if_neg h3] at h
      simp at h
      omega

set_option maxHeartbeats 8000000 in
set_option maxRecDepth 100000 in
theorem rfrag_form (s al sz : Int) (g : ByteArray) (n1 m1 : Nat) (ab ar : Option Addr) (cb cr : Nat) (many : Int) (w : World) (hg : g.size ≤ maxLen)
    (h : M.within s 1 5 = true) (ha : M.isAlign al = true) (hgr : g.toList.isEmpty = true ∨ (g.toList.isEmpty = false ∧ M.isName g = true))
    (h64 : n1 ≤ 64) (h8 : m1 ≤ 8) (hfo : frm s sz n1 m1 = false) :
    Calls Tryz.prog 23 #[.agg #[.int .i64 s, .int .i64 al, .string g, .slice ab n1 cb, .int .i64 sz, .slice ar m1 cr], .int .i64 many] w fun e w' =>
      e = .returned (.int .i64 4) ∧ Below w.heap.size w w' := by
  have h' : 1 ≤ s ∧ s ≤ 5 := by simpa [M.within] using h
  have d1 := tst_ge h'.1
  have d2 := tst_ge h'.2
  have d64 : decide (64 < (n1 : Int)) = false := tst_ge (by omega)
  have d8 : decide (8 < (m1 : Int)) = false := tst_ge (by omega)
  have hw := frm_ways hfo
  clear h h' hfo
  rcases hw with ⟨rfl, x1⟩ | ⟨rfl, x1, x2⟩ | ⟨rfl, x1, x2, x3⟩ | ⟨rfl, x1, x2, x3, x4⟩ | ⟨x0, x1⟩ | ⟨rfl, x0, x1⟩
  · have q0 : (0 : Int) < (n1 : Int) := by omega
    clear d1 d2
    rcases hgr with hgr1 | ⟨hgr1, hgr2⟩
    · go_enter Tryz.func23, Tryz.ntmps23
      go_wp2_with (first | (go_at_call 25; refine (isAlign_any _ _).mono ?_; rintro e w1 ⟨rfl, hb1⟩; obtain ⟨hc1, hf1⟩ := bcell hb1))
      go_ret
      exact ⟨rfl, ((Below.refl _ _).alloc (Nat.le_refl _) _).trans (hb1.mono (by simp))⟩
    · go_enter Tryz.func23, Tryz.ntmps23
      go_wp2_with (first | (go_at_call 25; refine (isAlign_any _ _).mono ?_; rintro e w1 ⟨rfl, hb1⟩; obtain ⟨hc1, hf1⟩ := bcell hb1; have hz1 := lt_of_alloc hb1) | (go_at_call 24; refine (isName_any _ _ hg).mono ?_; rintro e w2 ⟨rfl, hb2⟩; obtain ⟨hc2, hf2⟩ := bcell hb2))
      go_ret
      exact ⟨rfl, ((Below.refl _ _).alloc (Nat.le_refl _) _).trans ((hb1.trans (hb2.mono hb1.size)).mono (by simp))⟩
  · subst x1
    have q0 : (0 : Int) < (m1 : Int) := by omega
    clear d1 d2 d64
    rcases hgr with hgr1 | ⟨hgr1, hgr2⟩
    · go_enter Tryz.func23, Tryz.ntmps23
      go_wp2_with (first | (go_at_call 25; refine (isAlign_any _ _).mono ?_; rintro e w1 ⟨rfl, hb1⟩; obtain ⟨hc1, hf1⟩ := bcell hb1))
      go_ret
      exact ⟨rfl, ((Below.refl _ _).alloc (Nat.le_refl _) _).trans (hb1.mono (by simp))⟩
    · go_enter Tryz.func23, Tryz.ntmps23
      go_wp2_with (first | (go_at_call 25; refine (isAlign_any _ _).mono ?_; rintro e w1 ⟨rfl, hb1⟩; obtain ⟨hc1, hf1⟩ := bcell hb1; have hz1 := lt_of_alloc hb1) | (go_at_call 24; refine (isName_any _ _ hg).mono ?_; rintro e w2 ⟨rfl, hb2⟩; obtain ⟨hc2, hf2⟩ := bcell hb2))
      go_ret
      exact ⟨rfl, ((Below.refl _ _).alloc (Nat.le_refl _) _).trans ((hb1.trans (hb2.mono hb1.size)).mono (by simp))⟩
  · subst x1
    subst x2
    clear d1 d2 d64 d8
    rcases hgr with hgr1 | ⟨hgr1, hgr2⟩
    · go_enter Tryz.func23, Tryz.ntmps23
      go_wp2_with (first | (go_at_call 25; refine (isAlign_any _ _).mono ?_; rintro e w1 ⟨rfl, hb1⟩; obtain ⟨hc1, hf1⟩ := bcell hb1))
      go_ret
      exact ⟨rfl, ((Below.refl _ _).alloc (Nat.le_refl _) _).trans (hb1.mono (by simp))⟩
    · go_enter Tryz.func23, Tryz.ntmps23
      go_wp2_with (first | (go_at_call 25; refine (isAlign_any _ _).mono ?_; rintro e w1 ⟨rfl, hb1⟩; obtain ⟨hc1, hf1⟩ := bcell hb1; have hz1 := lt_of_alloc hb1) | (go_at_call 24; refine (isName_any _ _ hg).mono ?_; rintro e w2 ⟨rfl, hb2⟩; obtain ⟨hc2, hf2⟩ := bcell hb2))
      go_ret
      exact ⟨rfl, ((Below.refl _ _).alloc (Nat.le_refl _) _).trans ((hb1.trans (hb2.mono hb1.size)).mono (by simp))⟩
  · subst x1
    subst x2
    clear d1 d2 d64 d8
    rcases hgr with hgr1 | ⟨hgr1, hgr2⟩
    · go_enter Tryz.func23, Tryz.ntmps23
      go_wp2_with (first | (go_at_call 25; refine (isAlign_any _ _).mono ?_; rintro e w1 ⟨rfl, hb1⟩; obtain ⟨hc1, hf1⟩ := bcell hb1))
      go_ret
      exact ⟨rfl, ((Below.refl _ _).alloc (Nat.le_refl _) _).trans (hb1.mono (by simp))⟩
    · go_enter Tryz.func23, Tryz.ntmps23
      go_wp2_with (first | (go_at_call 25; refine (isAlign_any _ _).mono ?_; rintro e w1 ⟨rfl, hb1⟩; obtain ⟨hc1, hf1⟩ := bcell hb1; have hz1 := lt_of_alloc hb1) | (go_at_call 24; refine (isName_any _ _ hg).mono ?_; rintro e w2 ⟨rfl, hb2⟩; obtain ⟨hc2, hf2⟩ := bcell hb2))
      go_ret
      exact ⟨rfl, ((Below.refl _ _).alloc (Nat.le_refl _) _).trans ((hb1.trans (hb2.mono hb1.size)).mono (by simp))⟩
  · have q1 := beq_no x0
    have q2 := bne_yes x0
    have q3 := bne_yes x1
    clear x0 x1
    rcases hgr with hgr1 | ⟨hgr1, hgr2⟩
    · go_enter Tryz.func23, Tryz.ntmps23
      go_wp2_with (first | (go_at_call 25; refine (isAlign_any _ _).mono ?_; rintro e w1 ⟨rfl, hb1⟩; obtain ⟨hc1, hf1⟩ := bcell hb1))
      go_ret
      exact ⟨rfl, ((Below.refl _ _).alloc (Nat.le_refl _) _).trans (hb1.mono (by simp))⟩
    · go_enter Tryz.func23, Tryz.ntmps23
      go_wp2_with (first | (go_at_call 25; refine (isAlign_any _ _).mono ?_; rintro e w1 ⟨rfl, hb1⟩; obtain ⟨hc1, hf1⟩ := bcell hb1; have hz1 := lt_of_alloc hb1) | (go_at_call 24; refine (isName_any _ _ hg).mono ?_; rintro e w2 ⟨rfl, hb2⟩; obtain ⟨hc2, hf2⟩ := bcell hb2))
      go_ret
      exact ⟨rfl, ((Below.refl _ _).alloc (Nat.le_refl _) _).trans ((hb1.trans (hb2.mono hb1.size)).mono (by simp))⟩
  · subst x0
    have q0 : (0 : Int) < (m1 : Int) := by omega
    clear d1 d2
    rcases hgr with hgr1 | ⟨hgr1, hgr2⟩
    · go_enter Tryz.func23, Tryz.ntmps23
      go_wp2_with (first | (go_at_call 25; refine (isAlign_any _ _).mono ?_; rintro e w1 ⟨rfl, hb1⟩; obtain ⟨hc1, hf1⟩ := bcell hb1))
      go_ret
      exact ⟨rfl, ((Below.refl _ _).alloc (Nat.le_refl _) _).trans (hb1.mono (by simp))⟩
    · go_enter Tryz.func23, Tryz.ntmps23
      go_wp2_with (first | (go_at_call 25; refine (isAlign_any _ _).mono ?_; rintro e w1 ⟨rfl, hb1⟩; obtain ⟨hc1, hf1⟩ := bcell hb1; have hz1 := lt_of_alloc hb1) | (go_at_call 24; refine (isName_any _ _ hg).mono ?_; rintro e w2 ⟨rfl, hb2⟩; obtain ⟨hc2, hf2⟩ := bcell hb2))
      go_ret
      exact ⟨rfl, ((Below.refl _ _).alloc (Nat.le_refl _) _).trans ((hb1.trans (hb2.mono hb1.size)).mono (by simp))⟩

end Go.Proofs.YthiknlnhdjoipaaGreatDoor
