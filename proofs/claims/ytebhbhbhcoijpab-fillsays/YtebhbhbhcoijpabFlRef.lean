/-
  The reference's Bounds, ValueOf, WideOf; slices.Clone.
-/
import Derived.Test.YtebhbhbhcoijpabFlPut
import Derived.Test.YtebhbhbhcoijpabAppendSrc
import Derived.Maps.OwnOps
import Derived.Maps.OwnSet
namespace Go.Proofs.Ytebhbhbhcoijpab
open Go Go.RowKit Go.Maps
set_option linter.unusedVariables false

theorem wpList_insert_ownF {H : Type} {P : Program} (w : World) {ops : Array Oper} {rest : List Oper} {o : Oper} {a : Act} {Q : Exit → Act → World → Prop}
    (hg : o.guard = none) (m x v : Operand) (t : TypeId) (hop : o.op = Op.insert t m x v)
    (k e : TypeId) (K : Keyed P k) (ht : P.underlying t = some (.map k e)) (R : Value → Option (DataW H × List MemPlace)) (b n : Nat) (D : DataW H)
    (hm : a.eval m = .map (some b)) (hown : w.ownsMap P k R b n D) (hn : n < maxLen) (key val : Value) (kl : Lit) (hx : a.eval x = key) (hv : a.eval v = val) (hkey : keyOf P k key = some kl)
    (d : DataW H) (ps : List MemPlace) (hval : R val = some (d, ps))
    (hK : ∀ w', w'.ownsMap P k R b (n + 1) (D.put kl d) → w.grownBy w' (some b) → wpList P ops Q rest (a.put o.dst undef) w') :
    wpList P ops Q (o :: rest) a w := by
  refine wpList_plain hg fun K' hK' => ?_
  obtain ⟨w', hrun, r1, r2⟩ := hown.update K ht hn hkey hval
  unfold Oper.wp
  simp [execOp, hop, hm, hx, hv, hrun, Result.andThen]
  exact hK' _ _ (hK w' r1 r2)

theorem law3F : Keyed Try.prog 3 := int_keyed Try.underlying3
theorem zero3F (w : World) : (zeroValue 3).run Try.prog w = .ok (.int .i64 0) w := by kernel_rfl

def wideMapF : DataW Unit := ((((DataW.map []).put (.int .i64 1) (.lit (.int .i64 1))).put (.int .i64 2) (.lit (.int .i64 2))).put (.int .i64 3) (.lit (.int .i64 1))).put (.int .i64 4) (.lit (.int .i64 2))

theorem wideMap_eqF : wideMapF = .map [(.int .i64 1, .lit (.int .i64 1)), (.int .i64 2, .lit (.int .i64 2)), (.int .i64 3, .lit (.int .i64 1)), (.int .i64 4, .lit (.int .i64 2))] := by
  kernel_rfl

theorem wideMap_atF (n c : Int) (h : wideMapF.atKey (.int .i64 n) (.lit (.int .i64 0)) = .lit (.int .i64 c)) : M.wide n = c := by
  rw [wideMap_eqF] at h
  by_cases h1 : n = 1
  · subst h1; simpa [DataW.atKey, Lit.sameKey, M.wide] using h
  by_cases h2 : n = 2
  · subst h2; simpa [DataW.atKey, Lit.sameKey, M.wide] using h
  by_cases h3 : n = 3
  · subst h3; simpa [DataW.atKey, Lit.sameKey, M.wide] using h
  by_cases h4 : n = 4
  · subst h4; simpa [DataW.atKey, Lit.sameKey, M.wide] using h
  have g1 : ¬ 1 = n := fun e => h1 e.symm
  have g2 : ¬ 2 = n := fun e => h2 e.symm
  have g3 : ¬ 3 = n := fun e => h3 e.symm
  have g4 : ¬ 4 = n := fun e => h4 e.symm
  simpa [DataW.atKey, Lit.sameKey, M.wide, h1, h2, h3, h4, g1, g2, g3, g4] using h

set_option maxRecDepth 100000 in
theorem wideOf_anyF (n : Int) (w : World) (hn : (Lit.int .i64 n).wf = true) :
    Calls Try.prog 11 #[.int .i64 n] w fun e w' => e = .returned (.int .i64 (M.wide n)) ∧ Below w.heap.size w w' := by
  have hmm := @run_makeMap Try.prog
  go_enter Try.func11, Try.ntmps11
  go_wp2_with (first | (refine wpList_insert_ownF (H := Unit) _ rfl _ _ _ 48 rfl 3 3 law3F Try.underlying48 _ w.heap.size 3 _ rfl hown3 (by unfold maxLen; decide) _ _ _ rfl rfl (keyOf_int_mk Try.underlying3 (by decide)) _ [] (plainElem_int Try.underlying3 (by decide)) ?_; intro w4 hown4 hg4) | (refine wpList_insert_ownF (H := Unit) _ rfl _ _ _ 48 rfl 3 3 law3F Try.underlying48 _ w.heap.size 2 _ rfl hown2 (by unfold maxLen; decide) _ _ _ rfl rfl (keyOf_int_mk Try.underlying3 (by decide)) _ [] (plainElem_int Try.underlying3 (by decide)) ?_; intro w3 hown3 hg3) | (refine wpList_insert_ownF (H := Unit) _ rfl _ _ _ 48 rfl 3 3 law3F Try.underlying48 _ w.heap.size 1 _ rfl hown1 (by unfold maxLen; decide) _ _ _ rfl rfl (keyOf_int_mk Try.underlying3 (by decide)) _ [] (plainElem_int Try.underlying3 (by decide)) ?_; intro w2 hown2 hg2) | (refine wpList_insert_ownF (H := Unit) _ rfl _ _ _ 48 rfl 3 3 law3F Try.underlying48 _ w.heap.size 0 _ rfl (World.ownsMap_made _ _ _ _) (by unfold maxLen; decide) _ _ _ rfl rfl (keyOf_int_mk Try.underlying3 (by decide)) _ [] (plainElem_int Try.underlying3 (by decide)) ?_; intro w1 hown1 hg1) | (at_lookup; refine wpList_lookup_own_int _ rfl _ _ 48 rfl 3 3 .i64 law3F Try.underlying48 Try.underlying3 (zero3F _) w.heap.size 4 _ rfl hown4 _ _ rfl (keyOf_int_mk Try.underlying3 hn) ?_; intro c hat hwc))
  go_ret
  have hb : Below w.heap.size w w4 := by
    have h0 := (Below.refl w.heap.size w).alloc (Nat.le_refl _) (.map #[] 0)
    have h1 := h0.grown hg1 (by simp) (fun j hj => by cases hj; exact Nat.le_refl _)
    have h2 := h1.grown hg2 h1.size (fun j hj => by cases hj; exact Nat.le_refl _)
    have h3 := h2.grown hg3 h2.size (fun j hj => by cases hj; exact Nat.le_refl _)
    exact h3.grown hg4 h3.size (fun j hj => by cases hj; exact Nat.le_refl _)
  exact ⟨ret_int (wideMap_atF n c hat).symm, hb⟩

/-- how a pair of numbers reads -/
def pairElem (v : Value) : Option (DataW Unit × List MemPlace) :=
  match v with
  | .agg cs =>
    match cs.toList with
    | [.int .i64 a, .int .i64 b] => some (.agg [.lit (.int .i64 a), .lit (.int .i64 b)], [])
    | _ => none
  | _ => none

theorem pairElem_inv {v : Value} {x : DataW Unit × List MemPlace} (h : pairElem v = some x) : ∃ a b, v = .agg #[.int .i64 a, .int .i64 b] ∧ x.1 = .agg [.lit (.int .i64 a), .lit (.int .i64 b)] := by
  unfold pairElem at h
  split at h
  · rename_i cs
    split at h
    · rename_i a b hc
      cases h
      refine ⟨a, b, ?_, rfl⟩
      have : cs = #[.int .i64 a, .int .i64 b] := by
        apply Array.toList_inj.1
        rw [hc]
      rw [this]
    · cases h
  · cases h

def pairD (a b : Int) : DataW Unit := .agg [.lit (.int .i64 a), .lit (.int .i64 b)]
def boundsMap : DataW Unit := ((((DataW.map []).put (.int .i64 1) (pairD 0 255)).put (.int .i64 2) (pairD 0 65535)).put (.int .i64 3) (pairD (-128) 127)).put (.int .i64 4) (pairD (-32768) 32767)

theorem boundsMap_eq : boundsMap = .map [(.int .i64 1, pairD 0 255), (.int .i64 2, pairD 0 65535), (.int .i64 3, pairD (-128) 127), (.int .i64 4, pairD (-32768) 32767)] := by
  kernel_rfl

theorem pairD_inj {a b c d : Int} (h : pairD a b = .agg [.lit (.int .i64 c), .lit (.int .i64 d)]) : a = c ∧ b = d := by
  unfold pairD at h
  injection h with h
  injection h with h1 h2
  injection h2 with h2 h3
  injection h1 with h1
  injection h2 with h2
  injection h1 with _ h1
  injection h2 with _ h2
  exact ⟨h1, h2⟩

theorem bounds_at (n x y : Int) (bb : Bool) (h : boundsMap.atKey (.int .i64 n) (pairD 0 0) = .agg [.lit (.int .i64 x), .lit (.int .i64 y)]) (hb : Maps.has boundsMap (.int .i64 n) = bb) :
    bb = M.known n ∧ (M.known n = true → x = M.lo n ∧ y = M.hi n) := by
  rw [boundsMap_eq] at h hb
  by_cases h1 : n = 1
  · subst h1
    have e : (DataW.map [(.int .i64 1, pairD 0 255), (.int .i64 2, pairD 0 65535), (.int .i64 3, pairD (-128) 127), (.int .i64 4, pairD (-32768) 32767)]).atKey (.int .i64 1) (pairD 0 0) = pairD 0 255 := by simp [DataW.atKey, Lit.sameKey]
    rw [e] at h
    obtain ⟨rfl, rfl⟩ := pairD_inj h
    subst hb
    exact ⟨by simp [Maps.has, Lit.sameKey, M.known, M.wide], fun _ => ⟨rfl, rfl⟩⟩
  by_cases h2 : n = 2
  · subst h2
    have e : (DataW.map [(.int .i64 1, pairD 0 255), (.int .i64 2, pairD 0 65535), (.int .i64 3, pairD (-128) 127), (.int .i64 4, pairD (-32768) 32767)]).atKey (.int .i64 2) (pairD 0 0) = pairD 0 65535 := by simp [DataW.atKey, Lit.sameKey]
    rw [e] at h
    obtain ⟨rfl, rfl⟩ := pairD_inj h
    subst hb
    exact ⟨by simp [Maps.has, Lit.sameKey, M.known, M.wide], fun _ => ⟨rfl, rfl⟩⟩
  by_cases h3 : n = 3
  · subst h3
    have e : (DataW.map [(.int .i64 1, pairD 0 255), (.int .i64 2, pairD 0 65535), (.int .i64 3, pairD (-128) 127), (.int .i64 4, pairD (-32768) 32767)]).atKey (.int .i64 3) (pairD 0 0) = pairD (-128) 127 := by simp [DataW.atKey, Lit.sameKey]
    rw [e] at h
    obtain ⟨rfl, rfl⟩ := pairD_inj h
    subst hb
    exact ⟨by simp [Maps.has, Lit.sameKey, M.known, M.wide], fun _ => ⟨rfl, rfl⟩⟩
  by_cases h4 : n = 4
  · subst h4
    have e : (DataW.map [(.int .i64 1, pairD 0 255), (.int .i64 2, pairD 0 65535), (.int .i64 3, pairD (-128) 127), (.int .i64 4, pairD (-32768) 32767)]).atKey (.int .i64 4) (pairD 0 0) = pairD (-32768) 32767 := by simp [DataW.atKey, Lit.sameKey]
    rw [e] at h
    obtain ⟨rfl, rfl⟩ := pairD_inj h
    subst hb
    exact ⟨by simp [Maps.has, Lit.sameKey, M.known, M.wide], fun _ => ⟨rfl, rfl⟩⟩
  have g1 : ¬ 1 = n := fun e => h1 e.symm
  have g2 : ¬ 2 = n := fun e => h2 e.symm
  have g3 : ¬ 3 = n := fun e => h3 e.symm
  have g4 : ¬ 4 = n := fun e => h4 e.symm
  have hk : M.known n = false := by simp [M.known, M.wide, h1, h2, h3, h4]
  refine ⟨?_, fun h => absurd h (by rw [hk]; decide)⟩
  rw [← hb, hk]
  simp [Maps.has, Lit.sameKey, g1, g2, g3, g4]

theorem wpList_lookup_pair {P : Program} (w : World) {ops : Array Oper} {rest : List Oper} {o : Oper} {a : Act} {Q : Exit → Act → World → Prop} (hg : o.guard = none) (m x : Operand) (t : TypeId) (hop : o.op = Op.lookup t m x true)
    (k e : TypeId) (K : Keyed P k) (ht : P.underlying t = some (.map k e)) (hz : (zeroValue e).run P w = .ok (.agg #[.int .i64 0, .int .i64 0]) w) (b n : Nat) (D : DataW Unit)
    (hm : a.eval m = .map (some b)) (hown : w.ownsMap P k pairElem b n D) (key : Value) (kl : Lit) (hx : a.eval x = key) (hkey : keyOf P k key = some kl)
    (hK : ∀ c d bb, D.atKey kl (pairD 0 0) = .agg [.lit (.int .i64 c), .lit (.int .i64 d)] → Maps.has D kl = bb → wpList P ops Q rest (a.put o.dst (.tuple #[.agg #[.int .i64 c, .int .i64 d], .bool bb])) w) :
    wpList P ops Q (o :: rest) a w :=
  wpList_lookup_own_ok w hg m x t hop k e K ht pairElem hz (pairD 0 0) [] rfl b n D hm hown key kl hx hkey (fun v ps hv => by
    obtain ⟨c, d, rfl, hc⟩ := pairElem_inv hv
    exact hK c d _ hc rfl)

theorem zeroP (w : World) : (zeroValue 45).run Try.prog w = .ok (.agg #[.int .i64 0, .int .i64 0]) w := by kernel_rfl

set_option maxHeartbeats 1000000 in
set_option maxRecDepth 100000 in
theorem bounds_any (n : Int) (w : World) (hn : (Lit.int .i64 n).wf = true) :
    Calls Try.prog 8 #[.int .i64 n] w fun e w' => e = .returned (.tuple #[.int .i64 (M.lo n), .int .i64 (M.hi n)]) ∧ Below w.heap.size w w' := by
  have HL : Hid (M.known n = false → M.lo n = 1 ∧ M.hi n = 0) := fun h => by
    have : M.wide n = 0 := by
      have h1 := of_decide_eq_false h
      have h2 : 0 ≤ M.wide n := by unfold M.wide; repeat' split; all_goals omega
      omega
    unfold M.wide at this
    by_cases a1 : n = 1 ∨ n = 3
    · rw [if_pos a1] at this; omega
    · rw [if_neg a1] at this
      by_cases a2 : n = 2 ∨ n = 4
      · rw [if_pos a2] at this; omega
      · unfold M.lo M.hi
        rw [if_neg (by omega), if_neg (by omega), if_neg (by omega), if_neg (by omega), if_neg (by omega), if_neg (by omega), if_neg (by omega)]
        exact ⟨rfl, rfl⟩
  have HA : Hid (∀ x y bb, boundsMap.atKey (.int .i64 n) (pairD 0 0) = .agg [.lit (.int .i64 x), .lit (.int .i64 y)] → Maps.has boundsMap (.int .i64 n) = bb → bb = M.known n ∧ (M.known n = true → x = M.lo n ∧ y = M.hi n)) := fun x y bb => bounds_at n x y bb
  generalize M.lo n = lo at *
  generalize M.hi n = hi at *
  generalize M.known n = kn at *
  have hmm := @run_makeMap Try.prog
  go_enter Try.func8, Try.ntmps8
  go_wp2_with (first | (refine wpList_insert_ownF (H := Unit) _ rfl _ _ _ 46 rfl 3 45 law3F Try.underlying46 pairElem w.heap.size 3 _ rfl hown3 (by unfold maxLen; decide) _ _ _ rfl rfl (keyOf_int_mk Try.underlying3 (by decide)) _ [] rfl ?_; intro w4 hown4 hg4) | (refine wpList_insert_ownF (H := Unit) _ rfl _ _ _ 46 rfl 3 45 law3F Try.underlying46 pairElem w.heap.size 2 _ rfl hown2 (by unfold maxLen; decide) _ _ _ rfl rfl (keyOf_int_mk Try.underlying3 (by decide)) _ [] rfl ?_; intro w3 hown3 hg3) | (refine wpList_insert_ownF (H := Unit) _ rfl _ _ _ 46 rfl 3 45 law3F Try.underlying46 pairElem w.heap.size 1 _ rfl hown1 (by unfold maxLen; decide) _ _ _ rfl rfl (keyOf_int_mk Try.underlying3 (by decide)) _ [] rfl ?_; intro w2 hown2 hg2) | (refine wpList_insert_ownF (H := Unit) _ rfl _ _ _ 46 rfl 3 45 law3F Try.underlying46 pairElem w.heap.size 0 _ rfl (World.ownsMap_made _ _ _ _) (by unfold maxLen; decide) _ _ _ rfl rfl (keyOf_int_mk Try.underlying3 (by decide)) _ [] rfl ?_; intro w1 hown1 hg1) | (at_lookup; refine wpList_lookup_pair _ rfl _ _ 46 rfl 3 45 law3F Try.underlying46 (zeroP _) w.heap.size 4 _ rfl hown4 _ _ rfl (keyOf_int_mk Try.underlying3 hn) ?_; intro c d bb hat hbb; refine Hid.out ?_))
  refine Lib.hid ?_
  have hb : Hid (Below w.heap.size w w4) := by
    have h0 := (Below.refl w.heap.size w).alloc (Nat.le_refl _) (.map #[] 0)
    have h1 := h0.grown hg1 (by simp) (fun j hj => by cases hj; exact Nat.le_refl _)
    have h2 := h1.grown hg2 h1.size (fun j hj => by cases hj; exact Nat.le_refl _)
    have h3 := h2.grown hg3 h2.size (fun j hj => by cases hj; exact Nat.le_refl _)
    exact h3.grown hg4 h3.size (fun j hj => by cases hj; exact Nat.le_refl _)
  obtain ⟨rfl, hxy⟩ := HA.out c d bb hat hbb
  clear HA hat hbb hown1 hown2 hown3 hown4 hg1 hg2 hg3 hg4 hmm
  cases bb
  · obtain ⟨rfl, rfl⟩ := HL.out rfl
    clear hxy HL
    go_wp2
    go_ret2
    exact ⟨rfl, hb.out.alloc hb.out.size _⟩
  · obtain ⟨rfl, rfl⟩ := hxy rfl
    clear hxy HL
    go_wp2_with fail
    go_region
    all_goals
      go_wp2
      go_ret2
      exact ⟨rfl, (hb.out.alloc hb.out.size _).drew⟩

end Go.Proofs.Ytebhbhbhcoijpab
