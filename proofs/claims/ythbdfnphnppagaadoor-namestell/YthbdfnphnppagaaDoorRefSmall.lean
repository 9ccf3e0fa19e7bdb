/-
  The contracts of the reference's small functions: WideOf, IsAlign, IsName.
-/
import Derived.Test.YthbdfnphnppagaaDoorCheckFrag
import Derived.Test.YthbdfnphnppagaaDoorShelf
import Derived.Maps.OwnOps
namespace Go.Proofs.YthbdfnphnppagaaDoor
open Go.RowKit Go.Maps
set_option linter.unusedVariables false

theorem wpList_insert_own {H : Type} {P : Program} (w : World) {ops : Array Oper} {rest : List Oper} {o : Oper} {a : Act} {Q : Exit → Act → World → Prop}
    (hg : o.guard = none) (m x v : Operand) (t : TypeId) (hop : o.op = Op.insert t m x v)
    (k e : TypeId) (K : Keyed P k) (ht : P.underlying t = some (.map k e)) (R : Value → Option (DataW H × List MemPlace)) (b n : Nat) (D : DataW H)
    (hm : a.eval m = .map (some b)) (hown : w.ownsMap P k R b n D) (hn : n < maxLen) (key val : Value) (kl : Lit) (hx : a.eval x = key) (hv : a.eval v = val) (hkey : keyOf P k key = some kl)
    (d : DataW H) (ps : List MemPlace) (hval : R val = some (d, ps))
    (hK : ∀ w', w'.ownsMap P k R b (n + 1) (D.put kl d) → w.grownBy w' (some b) → wpList P ops Q rest (a.put o.dst undef) w') :
    wpList P ops Q (o :: rest) a w := by
  refine wpList_plain hg fun K' hK' => ?_
  obtain ⟨w', hrun, r1, r2⟩ := hown.update K ht hn hkey hval
  unfold Oper.wp
  simp [execOp, hop, hm, hx, hv, hrun, Result.andThen]
  exact hK' _ _ (hK w' r1 r2)

theorem law3 : Keyed Tryd.prog 3 := int_keyed Tryd.underlying3
theorem zero3 (w : World) : (zeroValue 3).run Tryd.prog w = .ok (.int .i64 0) w := by kernel_rfl

def wideMap : DataW Unit := ((((DataW.map []).put (.int .i64 1) (.lit (.int .i64 1))).put (.int .i64 2) (.lit (.int .i64 2))).put (.int .i64 3) (.lit (.int .i64 1))).put (.int .i64 4) (.lit (.int .i64 2))

theorem wideMap_eq : wideMap = .map [(.int .i64 1, .lit (.int .i64 1)), (.int .i64 2, .lit (.int .i64 2)), (.int .i64 3, .lit (.int .i64 1)), (.int .i64 4, .lit (.int .i64 2))] := by
  kernel_rfl

theorem wideMap_at (n c : Int) (h : wideMap.atKey (.int .i64 n) (.lit (.int .i64 0)) = .lit (.int .i64 c)) : M.wide n = c := by
  rw [wideMap_eq] at h
  by_cases h1 : n = 1
  · subst h1; simpa [DataW.atKey, Lit.sameKey, M.wide] using h
  by_cases h2 : n = 2
  · subst h2; simpa [DataW.atKey, Lit.sameKey, M.wide] using h
  by_cases h3 : n = 3
  · subst h3; simpa [DataW.atKey, Lit.sameKey, M.wide] using h
  by_cases h4 : n = 4
  · subst h4; simpa [DataW.atKey, Lit.sameKey, M.wide] using h
  have g1 : ¬ 1 = n := fun e => h1 e.symm
  have g2 : ¬ 2 = n := fun e => h2 e.symm
  have g3 : ¬ 3 = n := fun e => h3 e.symm
  have g4 : ¬ 4 = n := fun e => h4 e.symm
  simpa [DataW.atKey, Lit.sameKey, M.wide, h1, h2, h3, h4, g1, g2, g3, g4] using h

set_option maxRecDepth 100000 in
theorem wideOf_any (n : Int) (w : World) (hn : (Lit.int .i64 n).wf = true) :
    Calls Tryd.prog 15 #[.int .i64 n] w fun e w' => e = .returned (.int .i64 (M.wide n)) ∧ Below w.heap.size w w' := by
  have hmm := @run_makeMap Tryd.prog
  go_enter Tryd.func15, Tryd.ntmps15
  go_wp2_with (first | (refine wpList_insert_own (H := Unit) _ rfl _ _ _ 79 rfl 3 3 law3 Tryd.underlying79 _ w.heap.size 3 _ rfl hown3 (by unfold maxLen; decide) _ _ _ rfl rfl (keyOf_int_mk Tryd.underlying3 (by decide)) _ [] (plainElem_int Tryd.underlying3 (by decide)) ?_; intro w4 hown4 hg4) | (refine wpList_insert_own (H := Unit) _ rfl _ _ _ 79 rfl 3 3 law3 Tryd.underlying79 _ w.heap.size 2 _ rfl hown2 (by unfold maxLen; decide) _ _ _ rfl rfl (keyOf_int_mk Tryd.underlying3 (by decide)) _ [] (plainElem_int Tryd.underlying3 (by decide)) ?_; intro w3 hown3 hg3) | (refine wpList_insert_own (H := Unit) _ rfl _ _ _ 79 rfl 3 3 law3 Tryd.underlying79 _ w.heap.size 1 _ rfl hown1 (by unfold maxLen; decide) _ _ _ rfl rfl (keyOf_int_mk Tryd.underlying3 (by decide)) _ [] (plainElem_int Tryd.underlying3 (by decide)) ?_; intro w2 hown2 hg2) | (refine wpList_insert_own (H := Unit) _ rfl _ _ _ 79 rfl 3 3 law3 Tryd.underlying79 _ w.heap.size 0 _ rfl (World.ownsMap_made _ _ _ _) (by unfold maxLen; decide) _ _ _ rfl rfl (keyOf_int_mk Tryd.underlying3 (by decide)) _ [] (plainElem_int Tryd.underlying3 (by decide)) ?_; intro w1 hown1 hg1) | (at_lookup; refine wpList_lookup_own_int _ rfl _ _ 79 rfl 3 3 .i64 law3 Tryd.underlying79 Tryd.underlying3 (zero3 _) w.heap.size 4 _ rfl hown4 _ _ rfl (keyOf_int_mk Tryd.underlying3 hn) ?_; intro c hat hwc))
  go_ret
  have hb : Below w.heap.size w w4 := by
    have h0 := (Below.refl w.heap.size w).alloc (Nat.le_refl _) (.map #[] 0)
    have h1 := h0.grown hg1 (by simp) (fun j hj => by cases hj; exact Nat.le_refl _)
    have h2 := h1.grown hg2 h1.size (fun j hj => by cases hj; exact Nat.le_refl _)
    have h3 := h2.grown hg3 h2.size (fun j hj => by cases hj; exact Nat.le_refl _)
    exact h3.grown hg4 h3.size (fun j hj => by cases hj; exact Nat.le_refl _)
  exact ⟨ret_int (wideMap_at n c hat).symm, hb⟩

theorem align_contains (n : Int) : ([1, 2, 4, 8] : List Int).contains n = M.isAlign n := by
  simp only [List.contains, List.elem, M.isAlign]
  cases n == 1 <;> cases n == 2 <;> cases n == 4 <;> cases n == 8 <;> rfl

theorem isAlign_any (n : Int) (w : World) :
    Calls Tryd.prog 44 #[.int .i64 n] w fun e w' => e = .returned (.bool (M.isAlign n)) ∧ Below w.heap.size w w' := by
  have HC : Hid (∀ W : World, Calls Tryd.prog 71 #[.slice (some ⟨W.heap.size, 0, none⟩) 4 4, .int .i64 n] (W.alloc (.cells #[.int .i64 1, .int .i64 2, .int .i64 4, .int .i64 8] 3)) fun e w' => e = .returned (.bool (M.isAlign n)) ∧ w' = W.alloc (.cells #[.int .i64 1, .int .i64 2, .int .i64 4, .int .i64 8] 3)) := fun W => by
    rw [← align_contains]
    refine Any.slices_Contains_int Tryd.lays107 W.heap.size 0 4 4 [1, 2, 4, 8] n (W.alloc (.cells #[.int .i64 1, .int .i64 2, .int .i64 4, .int .i64 8] 3)) (by decide) (by decide) (fun j hj => ?_)
    rw [World.cell?_alloc_at _ _ _ _ rfl]
    have : j = 0 ∨ j = 1 ∨ j = 2 ∨ j = 3 := by simp at hj; omega
    rcases this with rfl | rfl | rfl | rfl <;> rfl
  go_enter Tryd.func44, Tryd.ntmps44
  go_wp2_with (go_at_call 71; refine (HC.out _).mono ?_; rintro e w' ⟨rfl, rfl⟩)
  go_ret
  exact ⟨rfl, (Below.refl _ _).alloc (Nat.le_refl _) _⟩

def letters : List UInt8 := [97, 98, 99, 100, 101, 102, 103, 104, 105, 106, 107, 108, 109, 110, 111, 112, 113, 114, 115, 116, 117, 118, 119, 120, 121, 122, 48, 49, 50, 51, 52, 53, 54, 55, 56, 57, 95]

theorem letters_contains (c : UInt8) : letters.contains c = M.nameByte c.toNat := by
  have h : ∀ n : Fin 256, letters.contains (UInt8.ofNat n.val) = M.nameByte (n.val : Nat) := by decide +kernel
  have := h ⟨c.toNat, c.toNat_lt⟩
  simpa using this

theorem dropWhile_nil_iff (p : UInt8 → Bool) : ∀ l : List UInt8, (l.dropWhile p).isEmpty = l.all p
  | [] => rfl
  | x :: l => by
    cases h : p x
    · simp [h]
    · simp only [List.dropWhile_cons, h, if_true, List.all_cons, Bool.true_and]
      exact dropWhile_nil_iff p l

theorem dropWhile_head (p : UInt8 → Bool) : ∀ l : List UInt8, (l.dropWhile p).all p = (l.dropWhile p).isEmpty
  | [] => rfl
  | x :: l => by
    cases h : p x
    · simp [h]
    · simp only [List.dropWhile_cons, h, if_true]
      exact dropWhile_head p l

theorem trim_empty (l : List UInt8) : (Lib.trimS l letters).isEmpty = l.all fun c => M.nameByte c.toNat := by
  have hp : (fun c : UInt8 => M.nameByte c.toNat) = fun c => letters.contains c := by funext c; exact (letters_contains c).symm
  rw [hp]
  simp only [Lib.trimS, Lib.trimLeftS, Lib.trimRightS]
  rw [dropWhile_nil_iff, List.all_reverse, dropWhile_head, dropWhile_nil_iff, List.all_reverse]

set_option maxHeartbeats 400000 in
theorem isName_any (s : ByteArray) (w : World) (hs : s.size ≤ maxLen) :
    Calls Tryd.prog 13 #[.string s] w fun e w' => e = .returned (.bool (M.isName s)) ∧ Below w.heap.size w w' := by
  have HC : Hid (∀ W : World, Calls Tryd.prog 51 #[.string s, .string ⟨#[97, 98, 99, 100, 101, 102, 103, 104, 105, 106, 107, 108, 109, 110, 111, 112, 113, 114, 115, 116, 117, 118, 119, 120, 121, 122, 48, 49, 50, 51, 52, 53, 54, 55, 56, 57, 95]⟩] W fun e w' =>
      e = .returned (.string ⟨(Lib.trimS s.data.toList letters).toArray⟩) ∧ Below W.heap.size W w') := fun W =>
    Any.strings_Trim_laid Tryd.lays160 (by kernel_rfl) s ⟨#[97, 98, 99, 100, 101, 102, 103, 104, 105, 106, 107, 108, 109, 110, 111, 112, 113, 114, 115, 116, 117, 118, 119, 120, 121, 122, 48, 49, 50, 51, 52, 53, 54, 55, 56, 57, 95]⟩ W hs (by decide) (ascii_of_all (by decide))
  unfold maxLen at hs
  have HT : Hid ((Lib.trimS s.data.toList letters).isEmpty = s.data.toList.all fun c => M.nameByte c.toNat) := trim_empty _
  generalize Lib.trimS s.data.toList letters = t at *
  by_cases h1 : 1 ≤ s.size
  · by_cases h2 : s.size ≤ 8
    · have HX : Hid (M.isName s = t.isEmpty) := by rw [Hid, HT.out]; simp [M.isName, h1, h2]
      go_enter Tryd.func13, Tryd.ntmps13
      go_wp2_with (go_at_call 51; refine (HC.out _).mono ?_; rintro e w' ⟨rfl, hb⟩)
      go_ret
      exact ⟨ret_bool (by rw [HX.out]), hb⟩
    · have HX : Hid (M.isName s = false) := by simp [Hid, M.isName, h2]
      go_enter Tryd.func13, Tryd.ntmps13
      go_wp2
      go_ret
      exact ⟨ret_bool HX.out.symm, Below.refl _ _⟩
  · have HX : Hid (M.isName s = false) := by simp [Hid, M.isName, h1]
    go_enter Tryd.func13, Tryd.ntmps13
    go_wp2
    go_ret
    exact ⟨ret_bool HX.out.symm, Below.refl _ _⟩

end Go.Proofs.YthbdfnphnppagaaDoor
