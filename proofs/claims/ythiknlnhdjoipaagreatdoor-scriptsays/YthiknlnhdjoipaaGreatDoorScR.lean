/-
  The contracts of the script's small readers: number, find, target, split. The contracts of target and split. The contract of pairs: bytes of two digits each.
-/
import Derived.Test.YthiknlnhdjoipaaGreatDoorScrPrint
import Derived.Test.YthiknlnhdjoipaaGreatDoorScMA
import Derived.Deep.AppendLies

namespace Go.Proofs.YthiknlnhdjoipaaGreatDoor
open Go Go.RowKit
set_option linter.unusedVariables false
attribute [local go_sem] lat_cell

theorem eqB_true {a b : ByteArray} (h : (a.toList == b.toList) = true) : M.txt a = M.txt b := by
  rw [Lib.toList_data, Lib.toList_data, beq_iff_eq] at h; exact h
theorem eqB_false {a b : ByteArray} (h : (a.toList == b.toList) = false) : M.txt a ≠ M.txt b := by
  rw [Lib.toList_data, Lib.toList_data, beq_eq_false_iff_ne] at h; exact h
theorem ret_two {a b : Value} {c d : Value} (h1 : a = b) (h2 : c = d) : Ending.returned (.tuple #[a, c]) = .returned (.tuple #[b, d]) := by rw [h1, h2]

theorem number_any (s : ByteArray) (hs : s.size ≤ 100000) (w : World) (hG : Glob w) :
    Calls Tryz.prog 79 #[.string s] w fun e w' => e = .returned (.tuple #[.int .i64 ((M.num (M.txt s)).getD 0), .bool (M.num (M.txt s)).isSome]) ∧ Below w.heap.size w w' := by
  by_cases hok : ∃ v, Lib.atoiAll (M.txt s) = .ok v
  · obtain ⟨v, hv⟩ := hok
    have HA : Hid (Calls Tryz.prog 112 #[.string s] w fun e w' => e = .returned (.tuple #[.int .i64 v, .nilIface]) ∧ Below w.heap.size w w') := atoi_ok s v w hs hv
    have HI : Hid (∀ W, Below w.heap.size w W → Calls Tryz.prog 16 #[.int .i64 v] W fun e w' => e = .returned (.string (M.str (Lib.itoa v))) ∧ Below W.heap.size W w') := fun W hW => itoa_any v (Lib.atoiAll_bounds hv) W (hG.later hW)
    cases he : ((M.str (Lib.itoa v)).toList == s.toList)
    · have HN : Hid (M.num (M.txt s) = none) := by
        have := eqB_false he
        rw [txt_str] at this
        rw [Hid, M.num, hv]
        simp only [if_neg this]
      generalize M.num (M.txt s) = R at *
      generalize M.str (Lib.itoa v) = iv at *
      clear hv
      go_enter Tryz.func79, Tryz.ntmps79
      go_wp2_with (first | (go_at_call 112; refine HA.out.mono ?_; rintro e w1 ⟨rfl, hb1⟩) | (go_at_call 16; refine (HI.out _ hb1).mono ?_; rintro e w2 ⟨rfl, hb2⟩))
      go_ret2
      exact ⟨by rw [HN.out]; rfl, hb1.trans (hb2.mono hb1.size)⟩
    · have HN : Hid (M.num (M.txt s) = some v) := by
        have := eqB_true he
        rw [txt_str] at this
        rw [Hid, M.num, hv]
        simp only [if_pos this]
      generalize M.num (M.txt s) = R at *
      generalize M.str (Lib.itoa v) = iv at *
      clear hv
      go_enter Tryz.func79, Tryz.ntmps79
      go_wp2_with (first | (go_at_call 112; refine HA.out.mono ?_; rintro e w1 ⟨rfl, hb1⟩) | (go_at_call 16; refine (HI.out _ hb1).mono ?_; rintro e w2 ⟨rfl, hb2⟩))
      go_ret2
      exact ⟨by rw [HN.out]; rfl, hb1.trans (hb2.mono hb1.size)⟩
  · have hno : Lib.atoiAll (M.txt s) = .«syntax» ∨ Lib.atoiAll (M.txt s) = .range := by
      cases h : Lib.atoiAll (M.txt s) with
      | ok v => exact absurd ⟨v, h⟩ hok
      | «syntax» => exact .inl rfl
      | range => exact .inr rfl
    have HN : Hid (M.num (M.txt s) = none) := by
      rw [Hid, M.num]
      rcases hno with h | h <;> rw [h]
    have HA : Hid (Calls Tryz.prog 112 #[.string s] w fun e w' => (∃ n N, e = .returned (.tuple #[.int .i64 n, .iface 141 (.pointer (some ⟨N, 0, none⟩))])) ∧ Below w.heap.size w w') := atoi_no s w hs hG hno
    generalize M.num (M.txt s) = R at *
    clear hno hok
    go_enter Tryz.func79, Tryz.ntmps79
    go_wp2_with (go_at_call 112; refine HA.out.mono ?_; rintro e w1 ⟨⟨n, N, rfl⟩, hb1⟩)
    go_ret2
    exact ⟨by rw [HN.out]; rfl, hb1⟩

theorem idx0 (a b c d e f : Value) (w : World) : (Instr.index 52 (.agg #[a, b, c, d, e, f]) (.int .i64 ((0 : Nat) : Int))).run Tryz.prog w = .ok a w := by kernel_rfl
theorem idx1 (a b c d e f : Value) (w : World) : (Instr.index 52 (.agg #[a, b, c, d, e, f]) (.int .i64 ((1 : Nat) : Int))).run Tryz.prog w = .ok b w := by kernel_rfl
theorem idx2 (a b c d e f : Value) (w : World) : (Instr.index 52 (.agg #[a, b, c, d, e, f]) (.int .i64 ((2 : Nat) : Int))).run Tryz.prog w = .ok c w := by kernel_rfl
theorem idx3 (a b c d e f : Value) (w : World) : (Instr.index 52 (.agg #[a, b, c, d, e, f]) (.int .i64 ((3 : Nat) : Int))).run Tryz.prog w = .ok d w := by kernel_rfl
theorem idx4 (a b c d e f : Value) (w : World) : (Instr.index 52 (.agg #[a, b, c, d, e, f]) (.int .i64 ((4 : Nat) : Int))).run Tryz.prog w = .ok e w := by kernel_rfl
theorem idx5 (a b c d e f : Value) (w : World) : (Instr.index 52 (.agg #[a, b, c, d, e, f]) (.int .i64 ((5 : Nat) : Int))).run Tryz.prog w = .ok f w := by kernel_rfl
theorem idl0 (a b c d e f : Value) (w : World) : (Instr.index 52 (.agg #[a, b, c, d, e, f]) (.int .i64 0)).run Tryz.prog w = .ok a w := by kernel_rfl
theorem idl1 (a b c d e f : Value) (w : World) : (Instr.index 52 (.agg #[a, b, c, d, e, f]) (.int .i64 1)).run Tryz.prog w = .ok b w := by kernel_rfl
theorem idl2 (a b c d e f : Value) (w : World) : (Instr.index 52 (.agg #[a, b, c, d, e, f]) (.int .i64 2)).run Tryz.prog w = .ok c w := by kernel_rfl
theorem idl3 (a b c d e f : Value) (w : World) : (Instr.index 52 (.agg #[a, b, c, d, e, f]) (.int .i64 3)).run Tryz.prog w = .ok d w := by kernel_rfl
theorem idl4 (a b c d e f : Value) (w : World) : (Instr.index 52 (.agg #[a, b, c, d, e, f]) (.int .i64 4)).run Tryz.prog w = .ok e w := by kernel_rfl
theorem idl5 (a b c d e f : Value) (w : World) : (Instr.index 52 (.agg #[a, b, c, d, e, f]) (.int .i64 5)).run Tryz.prog w = .ok f w := by kernel_rfl
attribute [local go_sem high] idx0 idx1 idx2 idx3 idx4 idx5 idl0 idl1 idl2 idl3 idl4 idl5

set_option maxRecDepth 100000 in
theorem find_any (t0 t1 t2 t3 t4 t5 : M.Txt) (s : ByteArray) (w : World) :
    Calls Tryz.prog 78 #[.agg #[.string (M.str t0), .string (M.str t1), .string (M.str t2), .string (M.str t3), .string (M.str t4), .string (M.str t5)], .string s] w fun e w' =>
      e = .returned (.tuple #[.int .i64 (((M.find [t0, t1, t2, t3, t4, t5] (M.txt s)).getD 0 : Nat) : Int), .bool (M.find [t0, t1, t2, t3, t4, t5] (M.txt s)).isSome]) ∧ Below w.heap.size w w' := by
  have HX : Hid (M.find [t0, t1, t2, t3, t4, t5] (M.txt s) = M.findFrom 0 ([t0, t1, t2, t3, t4, t5].drop 0) (M.txt s)) := rfl
  generalize M.find [t0, t1, t2, t3, t4, t5] (M.txt s) = R at *
  go_enter Tryz.func78, Tryz.ntmps78
  go_wp2_with fail
  go_loopw [9] (fun s9 wr => ∃ (k : Nat), k ≤ 6 ∧ s9 = .int .i64 k ∧ Hid (Below w.heap.size w wr) ∧ Hid (R = M.findFrom k ([t0, t1, t2, t3, t4, t5].drop k) (M.txt s))) (fun s9 _ => 6 - (intOf s9).toNat)
  case atStart => exact ⟨0, by omega, rfl, (Below.refl _ _).alloc (Nat.le_refl _) _, HX⟩
  case round =>
    obtain ⟨k, hk, rfl, HB, HR⟩ := hrel
    clear HX
    by_cases h6 : k = 6
    · subst h6
      have HR0 : Hid (R = none) := HR.out
      clear HR
      go_wp2
      go_ret2
      exact ⟨by rw [HR0.out]; rfl, HB.out⟩
    · rcases (by omega : k = 0 ∨ k = 1 ∨ k = 2 ∨ k = 3 ∨ k = 4 ∨ k = 5) with rfl | rfl | rfl | rfl | rfl | rfl
      · cases he : ((M.str t0).toList == s.toList)
        · have HR0 : Hid (R = M.findFrom 1 ([t0, t1, t2, t3, t4, t5].drop 1) (M.txt s)) := by
            have hne := eqB_false he; rw [txt_str] at hne
            exact HR.out.trans (if_neg hne)
          clear HR
          go_wp2
          go_roundw
          case rel => exact ⟨1, by omega, by go_num, HB, HR0⟩
          case measure => simp [intOf]
        · have HR0 : Hid (R = some 0) := by
            have hne := eqB_true he; rw [txt_str] at hne
            exact HR.out.trans (if_pos hne)
          clear HR
          go_wp2
          go_ret2
          exact ⟨by rw [HR0.out]; rfl, HB.out⟩
      · cases he : ((M.str t1).toList == s.toList)
        · have HR0 : Hid (R = M.findFrom 2 ([t0, t1, t2, t3, t4, t5].drop 2) (M.txt s)) := by
            have hne := eqB_false he; rw [txt_str] at hne
            exact HR.out.trans (if_neg hne)
          clear HR
          go_wp2
          go_roundw
          case rel => exact ⟨2, by omega, by go_num, HB, HR0⟩
          case measure => simp [intOf]
        · have HR0 : Hid (R = some 1) := by
            have hne := eqB_true he; rw [txt_str] at hne
            exact HR.out.trans (if_pos hne)
          clear HR
          go_wp2
          go_ret2
          exact ⟨by rw [HR0.out]; rfl, HB.out⟩
      · cases he : ((M.str t2).toList == s.toList)
        · have HR0 : Hid (R = M.findFrom 3 ([t0, t1, t2, t3, t4, t5].drop 3) (M.txt s)) := by
            have hne := eqB_false he; rw [txt_str] at hne
            exact HR.out.trans (if_neg hne)
          clear HR
          go_wp2
          go_roundw
          case rel => exact ⟨3, by omega, by go_num, HB, HR0⟩
          case measure => simp [intOf]
        · have HR0 : Hid (R = some 2) := by
            have hne := eqB_true he; rw [txt_str] at hne
            exact HR.out.trans (if_pos hne)
          clear HR
          go_wp2
          go_ret2
          exact ⟨by rw [HR0.out]; rfl, HB.out⟩
      · cases he : ((M.str t3).toList == s.toList)
        · have HR0 : Hid (R = M.findFrom 4 ([t0, t1, t2, t3, t4, t5].drop 4) (M.txt s)) := by
            have hne := eqB_false he; rw [txt_str] at hne
            exact HR.out.trans (if_neg hne)
          clear HR
          go_wp2
          go_roundw
          case rel => exact ⟨4, by omega, by go_num, HB, HR0⟩
          case measure => simp [intOf]
        · have HR0 : Hid (R = some 3) := by
            have hne := eqB_true he; rw [txt_str] at hne
            exact HR.out.trans (if_pos hne)
          clear HR
          go_wp2
          go_ret2
          exact ⟨by rw [HR0.out]; rfl, HB.out⟩
      · cases he : ((M.str t4).toList == s.toList)
        · have HR0 : Hid (R = M.findFrom 5 ([t0, t1, t2, t3, t4, t5].drop 5) (M.txt s)) := by
            have hne := eqB_false he; rw [txt_str] at hne
            exact HR.out.trans (if_neg hne)
          clear HR
          go_wp2
          go_roundw
          case rel => exact ⟨5, by omega, by go_num, HB, HR0⟩
          case measure => simp [intOf]
        · have HR0 : Hid (R = some 4) := by
            have hne := eqB_true he; rw [txt_str] at hne
            exact HR.out.trans (if_pos hne)
          clear HR
          go_wp2
          go_ret2
          exact ⟨by rw [HR0.out]; rfl, HB.out⟩
      · cases he : ((M.str t5).toList == s.toList)
        · have HR0 : Hid (R = M.findFrom 6 ([t0, t1, t2, t3, t4, t5].drop 6) (M.txt s)) := by
            have hne := eqB_false he; rw [txt_str] at hne
            exact HR.out.trans (if_neg hne)
          clear HR
          go_wp2
          go_roundw
          case rel => exact ⟨6, by omega, by go_num, HB, HR0⟩
          case measure => simp [intOf]
        · have HR0 : Hid (R = some 5) := by
            have hne := eqB_true he; rw [txt_str] at hne
            exact HR.out.trans (if_pos hne)
          clear HR
          go_wp2
          go_ret2
          exact ⟨by rw [HR0.out]; rfl, HB.out⟩

end Go.Proofs.YthiknlnhdjoipaaGreatDoor

namespace Go.Proofs.YthiknlnhdjoipaaGreatDoor
open Go Go.RowKit
set_option linter.unusedVariables false

theorem cutPrefix_any (s : ByteArray) (w : World) :
    Calls Tryz.prog 114 #[.string s, .string ⟨#[35]⟩] w fun e w' => e = .returned (.tuple #[.string (M.str (Lib.trimPrefix (M.txt s) [35])), .bool (Lib.hasPrefix (M.txt s) [35])]) ∧ w' = w :=
  Go.Proofs.Any.strings_CutPrefix (P := Tryz.prog) (ρ := Tryz.lays103_ren) Tryz.lays103 s ⟨#[35]⟩ w

def leadName (t : M.Txt) : ByteArray := ((M.leads t).getD (M.str [], 0)).1
def leadFrag (t : M.Txt) : Int := ((M.leads t).getD (M.str [], 0)).2

theorem txt_size (s : ByteArray) : (M.txt s).length = s.size := (Lib.size_eq s).symm
theorem str_size (t : M.Txt) : (M.str t).size = t.length := by rw [Lib.size_eq]; simp [M.str]
theorem strE {t : M.Txt} (h : (M.str t).toList.isEmpty = true) : t = [] := by have := txt_nil _ h; rwa [txt_str] at this
theorem strNE {t : M.Txt} (h : (M.str t).toList.isEmpty = false) : t ≠ [] := by have := txt_ne _ h; rwa [txt_str] at this

theorem leads_any (s : ByteArray) (hs : s.size ≤ 100000) (w : World) (hG : Glob w) :
    Calls Tryz.prog 81 #[.string s] w fun e w' => e = .returned (.tuple #[.string (leadName (M.txt s)), .int .i64 (leadFrag (M.txt s)), .bool (M.leads (M.txt s)).isSome]) ∧ Below w.heap.size w w' := by
  have HC : Hid (∀ W, Calls Tryz.prog 114 #[.string s, .string ⟨#[35]⟩] W fun e w' => e = .returned (.tuple #[.string (M.str (Lib.trimPrefix (M.txt s) [35])), .bool (Lib.hasPrefix (M.txt s) [35])]) ∧ w' = W) := fun W => cutPrefix_any s W
  cases hp : Lib.hasPrefix (M.txt s) [35]
  · have hl : M.leads (M.txt s) = some (s, 0) := by
      cases ht : M.txt s with
      | nil => have : s = M.str [] := by rw [← str_txt s, ht]
               rw [this]; rfl
      | cons c r =>
        rw [ht] at hp
        have hc : c ≠ 35 := fun h => by subst h; simp [Lib.hasPrefix] at hp
        rw [M.leads, if_neg hc, ← ht, str_txt]
    have H1 : Hid (leadName (M.txt s) = s) := by rw [Hid, leadName, hl]; rfl
    have H2 : Hid (leadFrag (M.txt s) = 0) := by rw [Hid, leadFrag, hl]; rfl
    have H3 : Hid ((M.leads (M.txt s)).isSome = true) := by rw [Hid, hl]; rfl
    clear hl
    rw [H1.out, H2.out, H3.out]
    rw [hp] at HC
    clear H1 H2 H3 hp
    generalize M.str (Lib.trimPrefix (M.txt s) [35]) = tp at *
    go_enter Tryz.func81, Tryz.ntmps81
    go_wp2_with (go_at_call 114; refine (HC.out _).mono ?_; rintro e w1 ⟨rfl, rfl⟩)
    refine bodyPost_ret (v := .tuple #[.string s, .int .i64 0, .bool true]) (by simp [results, Tryz.results81, go_sem]) rfl ?_
    exact ⟨rfl, Below.refl _ _⟩
  · obtain ⟨r, hr⟩ : ∃ r, M.txt s = 35 :: r := by
      cases ht : M.txt s with
      | nil => rw [ht] at hp; simp [Lib.hasPrefix] at hp
      | cons c r =>
        rw [ht] at hp
        simp [Lib.hasPrefix] at hp
        exact ⟨r, by rw [← hp]⟩
    have htr : Lib.trimPrefix (M.txt s) [35] = r := by rw [Lib.trimPrefix, hp]; simp [hr]
    have hl : M.leads (M.txt s) = (M.num r).map fun n => (M.str [], n) := by rw [hr, M.leads, if_pos rfl]
    have H1 : Hid (leadName (M.txt s) = M.str []) := by
      rw [Hid, leadName, hl]; cases M.num r <;> rfl
    have H2 : Hid (leadFrag (M.txt s) = (M.num r).getD 0) := by rw [Hid, leadFrag, hl]; cases M.num r <;> rfl
    have H3 : Hid ((M.leads (M.txt s)).isSome = (M.num r).isSome) := by rw [Hid, hl]; cases M.num r <;> rfl
    have hsz : r.length ≤ 100000 := by have := txt_size s; rw [hr, List.length_cons] at this; omega
    have HN : Hid (Calls Tryz.prog 79 #[.string (M.str r)] w fun e w' => e = .returned (.tuple #[.int .i64 ((M.num r).getD 0), .bool (M.num r).isSome]) ∧ Below w.heap.size w w') := by
      have := number_any (M.str r) (by rw [str_size]; exact hsz) w hG
      rwa [txt_str] at this
    rw [H1.out, H2.out, H3.out]
    rw [hp, htr] at HC
    clear H1 H2 H3 hp hl htr hr
    generalize (M.num r).isSome = nb at *
    generalize (M.num r).getD 0 = nn at *
    generalize M.str r = tp at *
    go_enter Tryz.func81, Tryz.ntmps81
    go_wp2_with (first | (go_at_call 114; refine (HC.out _).mono ?_; rintro e w1 ⟨rfl, rfl⟩) | (go_at_call 79; refine HN.out.mono ?_; rintro e w1 ⟨rfl, hb1⟩))
    refine bodyPost_ret (v := .tuple #[.string ⟨#[]⟩, .int .i64 nn, .bool nb]) (by simp [results, Tryz.results81, go_sem]) rfl ?_
    exact ⟨rfl, hb1⟩

/-- how split ends -/
def splits (o : Option (M.Txt × M.Txt × M.Txt × M.Txt × M.Txt)) : Ending :=
  match o with
  | some (a, b, c, d, e) => .returned (.tuple #[.agg #[.string (M.str a), .string (M.str b), .string (M.str c), .string (M.str d), .string (M.str e)], .bool true])
  | none => .returned (.tuple #[.agg #[.string ⟨#[]⟩, .string ⟨#[]⟩, .string ⟨#[]⟩, .string ⟨#[]⟩, .string ⟨#[]⟩], .bool false])

theorem five_short {l : List M.Txt} (h : l.length ≠ 5) : M.five l = none := by
  match l, h with
  | [], _ | [_], _ | [_, _], _ | [_, _, _], _ | [_, _, _, _], _ => rfl
  | [_, _, _, _, _], h => simp at h
  | _ :: _ :: _ :: _ :: _ :: _ :: _, _ => rfl

theorem five_empty {l : List M.Txt} (h : [] ∈ l) : M.five l = none := by
  match l, h with
  | [], _ | [_], _ | [_, _], _ | [_, _, _], _ | [_, _, _, _], _ => rfl
  | [a, b, c, d, e], h =>
    simp only [List.mem_cons, List.not_mem_nil, or_false] at h
    show (if a = [] ∨ b = [] ∨ c = [] ∨ d = [] ∨ e = [] then none else some (a, b, c, d, e)) = _
    rw [if_pos]
    rcases h with h | h | h | h | h <;> simp [← h]
  | _ :: _ :: _ :: _ :: _ :: _ :: _, _ => rfl

theorem five_full {a b c d e : M.Txt} (h : a ≠ [] ∧ b ≠ [] ∧ c ≠ [] ∧ d ≠ [] ∧ e ≠ []) : M.five [a, b, c, d, e] = some (a, b, c, d, e) := by
  show (if a = [] ∨ b = [] ∨ c = [] ∨ d = [] ∨ e = [] then none else some (a, b, c, d, e)) = _
  rw [if_neg]
  simp [h]

/-- the cut at a blank, as the program meets it -/
theorem cut_some {r x y : M.Txt} (h : M.cutAt 32 r = some (x, y)) : Lib.cut r [32] = (x, y, true) := by rw [cut_one, h]
theorem cut_none {r : M.Txt} (h : M.cutAt 32 r = none) : Lib.cut r [32] = (r, [], false) := by rw [cut_one, h]

theorem blank_any (r : M.Txt) (hr : r.length ≤ 100000) (W : World) (hG : Glob W) :
    Calls Tryz.prog 21 #[.string (M.str r), .string ⟨#[32]⟩] W fun e w' => e = .returned (.tuple #[.string (M.str (Lib.cut r [32]).1), .string (M.str (Lib.cut r [32]).2.1), .bool (Lib.cut r [32]).2.2]) ∧ Below W.heap.size W w' := by
  have := cut_any (M.str r) ⟨#[32]⟩ W hG (by rw [str_size]; exact hr)
  rwa [txt_str] at this

def blk (ws : List M.Txt) : Array Value := #[.string (M.str (ws.getD 0 [])), .string (M.str (ws.getD 1 [])), .string (M.str (ws.getD 2 [])), .string (M.str (ws.getD 3 [])), .string (M.str (ws.getD 4 []))]

theorem setB {w : World} {g i : Nat} {cs : Array Value} {t : TypeId} {fr : Nat × Nat} (h : w.heap[g]? = some (.cells cs t fr)) (v : Value) : (w.setCell ⟨g, i, none⟩ v).heap[g]? = some (.cells (cs.setIfInBounds i v) t fr) := by
  simp [World.setCell, Array.getElem?_modify, h]

theorem blank_some {r x y : M.Txt} (hr : r.length ≤ 100000) (h : M.cutAt 32 r = some (x, y)) (W : World) (hG : Glob W) :
    Calls Tryz.prog 21 #[.string (M.str r), .string ⟨#[32]⟩] W fun e w' => e = .returned (.tuple #[.string (M.str x), .string (M.str y), .bool true]) ∧ Below W.heap.size W w' := by
  have := blank_any r hr W hG
  rwa [cut_some h] at this
theorem blank_none {r : M.Txt} (hr : r.length ≤ 100000) (h : M.cutAt 32 r = none) (W : World) (hG : Glob W) :
    Calls Tryz.prog 21 #[.string (M.str r), .string ⟨#[32]⟩] W fun e w' => e = .returned (.tuple #[.string (M.str r), .string ⟨#[]⟩, .bool false]) ∧ Below W.heap.size W w' := by
  have := blank_any r hr W hG
  rwa [cut_none h] at this

set_option maxHeartbeats 8000000 in
set_option maxRecDepth 100000 in
theorem split_any (s : ByteArray) (hs : s.size ≤ 100000) (w : World) (hG : Glob w) :
    Calls Tryz.prog 46 #[.string s] w fun e w' => e = splits (M.five (M.pieces 32 (M.txt s))) ∧ Below w.heap.size w w' := by
  have hsz : (M.txt s).length ≤ 100000 := by rw [txt_size]; exact hs
  have es : s = M.str (M.txt s) := (str_txt s).symm
  rw [es, txt_str]
  generalize M.txt s = t at *
  clear es hs
  obtain ⟨L, hL⟩ : ∃ L, L = M.pieces 32 t := ⟨_, rfl⟩
  have HL : Hid (L = [] ++ M.pieces 32 t) := hL
  rw [← hL]
  clear hL
  go_enter Tryz.func46, Tryz.ntmps46
  go_wp2_with fail
  go_loopw [0, 8] (fun s0 s8 wr => ∃ (ws : List M.Txt) (r : M.Txt), ws.length ≤ 5 ∧ s8 = .int .i64 ws.length ∧ s0 = .string (M.str r) ∧ r.length ≤ 100000 ∧ Hid (∀ x ∈ ws, x ≠ []) ∧ Hid (if ws.length < 5 then L = ws ++ M.pieces 32 r else L = ws) ∧ Hid (Below w.heap.size w wr) ∧ wr.heap[w.heap.size]? = some (.cells (blk ws) 91 (0, 0))) (fun _ s8 _ => 5 - (intOf s8).toNat)
  case atStart => exact ⟨[], t, by simp, rfl, rfl, hsz, (show ∀ x ∈ ([] : List M.Txt), x ≠ [] from fun x hx => by simp at hx), HL, (Below.refl _ _).alloc (Nat.le_refl _) _, heap_alloc_new _ _⟩
  case round =>
    clear HL hsz
    obtain ⟨ws, r, hws, rfl, rfl, hr, HE, HL, HB, hblk⟩ := hrel
    have hG1 := hG.later HB.out
    have hlt : w.heap.size < wr.heap.size := (Array.getElem?_eq_some_iff.1 hblk).1
    match ws, hws, HE, HL, hblk with
    | [], _, HE, HL, hblk =>
      have HL0 : Hid (L = [] ++ M.pieces 32 r) := HL.out
      have hblk : wr.heap[w.heap.size]? = some (.cells #[.string ⟨#[]⟩, .string ⟨#[]⟩, .string ⟨#[]⟩, .string ⟨#[]⟩, .string ⟨#[]⟩] 91 (0, 0)) := hblk
      clear HL
      cases hc : M.cutAt 32 r with
      | some xy =>
        obtain ⟨x, y⟩ := xy
        have HC : Hid (Calls Tryz.prog 21 #[.string (M.str r), .string ⟨#[32]⟩] wr fun e w' => e = .returned (.tuple #[.string (M.str x), .string (M.str y), .bool true]) ∧ Below wr.heap.size wr w') := blank_some hr hc wr hG1
        have HL1 : Hid (L = [] ++ x :: M.pieces 32 y) := by rw [Hid, HL0.out, pieces_some hc]
        have hy : y.length ≤ 100000 := by have := cutAt_len hc; simp only at this; omega
        clear hc HL0
        cases hE : (M.str x).toList.isEmpty
        · have hx := strNE hE
          go_wp2_with (go_at_call 21; refine (HC.out).mono ?_; rintro e w1 ⟨rfl, hb1⟩; have q1 : w1.heap[w.heap.size]? = some (.cells #[.string ⟨#[]⟩, .string ⟨#[]⟩, .string ⟨#[]⟩, .string ⟨#[]⟩, .string ⟨#[]⟩] 91 (0, 0)) := (hb1.block _ hlt).trans hblk; have c0 := cellB q1 0; have c1 := cellB q1 1; have c2 := cellB q1 2; have c3 := cellB q1 3; have c4 := cellB q1 4; have f0 := frozenB q1 0; have f1 := frozenB q1 1; have f2 := frozenB q1 2; have f3 := frozenB q1 3; have f4 := frozenB q1 4; simp only [List.getElem?_toArray, List.getElem?_cons_zero, List.getElem?_cons_succ] at c0 c1 c2 c3 c4)
          go_roundw
          case rel =>
            refine ⟨[x], y, by simp, by first | rfl | go_num | simp, rfl, hy, ?_, ?_, (HB.out.trans (hb1.mono HB.out.size)).setCell (Nat.le_refl _) _, ?_⟩
            · intro z hz
              rcases List.mem_cons.1 (show z ∈ x :: [] by simp only [List.mem_cons, List.not_mem_nil, or_false] at hz ⊢; exact hz) with rfl | hz
              · exact hx
              · exact HE.out z hz
            · show (if 1 < 5 then _ else _)
              rw [if_pos (by decide), HL1.out]; rfl
            · rw [setB q1]; rfl
          case measure => simp [intOf]
        · have hx := strE hE
          subst hx
          go_wp2_with (go_at_call 21; refine (HC.out).mono ?_; rintro e w1 ⟨rfl, hb1⟩; have q1 : w1.heap[w.heap.size]? = some (.cells #[.string ⟨#[]⟩, .string ⟨#[]⟩, .string ⟨#[]⟩, .string ⟨#[]⟩, .string ⟨#[]⟩] 91 (0, 0)) := (hb1.block _ hlt).trans hblk; have c0 := cellB q1 0; have c1 := cellB q1 1; have c2 := cellB q1 2; have c3 := cellB q1 3; have c4 := cellB q1 4; have f0 := frozenB q1 0; have f1 := frozenB q1 1; have f2 := frozenB q1 2; have f3 := frozenB q1 3; have f4 := frozenB q1 4; simp only [List.getElem?_toArray, List.getElem?_cons_zero, List.getElem?_cons_succ] at c0 c1 c2 c3 c4)
          refine bodyPost_ret (v := .tuple #[.agg #[.string ⟨#[]⟩, .string ⟨#[]⟩, .string ⟨#[]⟩, .string ⟨#[]⟩, .string ⟨#[]⟩], .bool false]) (by simp [results, Tryz.results46, go_sem, c0, c1, c2, c3, c4]) rfl ?_
          refine ⟨?_, ?_⟩
          · have : M.five L = none := five_empty (by rw [HL1.out]; simp)
            rw [this]; rfl
          · exact (((((HB.out.trans (hb1.mono HB.out.size)).setCell (Nat.le_refl _) _).setCell (Nat.le_refl _) _).setCell (Nat.le_refl _) _).setCell (Nat.le_refl _) _).setCell (Nat.le_refl _) _
      | none =>
        have HC : Hid (Calls Tryz.prog 21 #[.string (M.str r), .string ⟨#[32]⟩] wr fun e w' => e = .returned (.tuple #[.string (M.str r), .string ⟨#[]⟩, .bool false]) ∧ Below wr.heap.size wr w') := blank_none hr hc wr hG1
        have HL1 : Hid (L = [] ++ [r]) := by rw [Hid, HL0.out, pieces_none hc]
        clear hc HL0
        cases hE : (M.str r).toList.isEmpty
        · have hx := strNE hE
          go_wp2_with (go_at_call 21; refine (HC.out).mono ?_; rintro e w1 ⟨rfl, hb1⟩; have q1 : w1.heap[w.heap.size]? = some (.cells #[.string ⟨#[]⟩, .string ⟨#[]⟩, .string ⟨#[]⟩, .string ⟨#[]⟩, .string ⟨#[]⟩] 91 (0, 0)) := (hb1.block _ hlt).trans hblk; have c0 := cellB q1 0; have c1 := cellB q1 1; have c2 := cellB q1 2; have c3 := cellB q1 3; have c4 := cellB q1 4; have f0 := frozenB q1 0; have f1 := frozenB q1 1; have f2 := frozenB q1 2; have f3 := frozenB q1 3; have f4 := frozenB q1 4; simp only [List.getElem?_toArray, List.getElem?_cons_zero, List.getElem?_cons_succ] at c0 c1 c2 c3 c4)
          refine bodyPost_ret (v := .tuple #[.agg #[.string ⟨#[]⟩, .string ⟨#[]⟩, .string ⟨#[]⟩, .string ⟨#[]⟩, .string ⟨#[]⟩], .bool false]) (by simp [results, Tryz.results46, go_sem, c0, c1, c2, c3, c4]) rfl ?_
          refine ⟨?_, ?_⟩
          · have : M.five L = none := five_short (by rw [HL1.out]; simp)
            rw [this]; rfl
          · exact (((((HB.out.trans (hb1.mono HB.out.size)).setCell (Nat.le_refl _) _).setCell (Nat.le_refl _) _).setCell (Nat.le_refl _) _).setCell (Nat.le_refl _) _).setCell (Nat.le_refl _) _
        · have hx := strE hE
          subst hx
          go_wp2_with (go_at_call 21; refine (HC.out).mono ?_; rintro e w1 ⟨rfl, hb1⟩; have q1 : w1.heap[w.heap.size]? = some (.cells #[.string ⟨#[]⟩, .string ⟨#[]⟩, .string ⟨#[]⟩, .string ⟨#[]⟩, .string ⟨#[]⟩] 91 (0, 0)) := (hb1.block _ hlt).trans hblk; have c0 := cellB q1 0; have c1 := cellB q1 1; have c2 := cellB q1 2; have c3 := cellB q1 3; have c4 := cellB q1 4; have f0 := frozenB q1 0; have f1 := frozenB q1 1; have f2 := frozenB q1 2; have f3 := frozenB q1 3; have f4 := frozenB q1 4; simp only [List.getElem?_toArray, List.getElem?_cons_zero, List.getElem?_cons_succ] at c0 c1 c2 c3 c4)
          refine bodyPost_ret (v := .tuple #[.agg #[.string ⟨#[]⟩, .string ⟨#[]⟩, .string ⟨#[]⟩, .string ⟨#[]⟩, .string ⟨#[]⟩], .bool false]) (by simp [results, Tryz.results46, go_sem, c0, c1, c2, c3, c4]) rfl ?_
          refine ⟨?_, ?_⟩
          · have : M.five L = none := five_empty (by rw [HL1.out]; simp)
            rw [this]; rfl
          · exact (((((HB.out.trans (hb1.mono HB.out.size)).setCell (Nat.le_refl _) _).setCell (Nat.le_refl _) _).setCell (Nat.le_refl _) _).setCell (Nat.le_refl _) _).setCell (Nat.le_refl _) _
    | [a0], _, HE, HL, hblk =>
      have HL0 : Hid (L = [a0] ++ M.pieces 32 r) := HL.out
      have hblk : wr.heap[w.heap.size]? = some (.cells #[.string (M.str a0), .string ⟨#[]⟩, .string ⟨#[]⟩, .string ⟨#[]⟩, .string ⟨#[]⟩] 91 (0, 0)) := hblk
      clear HL
      cases hc : M.cutAt 32 r with
      | some xy =>
        obtain ⟨x, y⟩ := xy
        have HC : Hid (Calls Tryz.prog 21 #[.string (M.str r), .string ⟨#[32]⟩] wr fun e w' => e = .returned (.tuple #[.string (M.str x), .string (M.str y), .bool true]) ∧ Below wr.heap.size wr w') := blank_some hr hc wr hG1
        have HL1 : Hid (L = [a0] ++ x :: M.pieces 32 y) := by rw [Hid, HL0.out, pieces_some hc]
        have hy : y.length ≤ 100000 := by have := cutAt_len hc; simp only at this; omega
        clear hc HL0
        cases hE : (M.str x).toList.isEmpty
        · have hx := strNE hE
          go_wp2_with (go_at_call 21; refine (HC.out).mono ?_; rintro e w1 ⟨rfl, hb1⟩; have q1 : w1.heap[w.heap.size]? = some (.cells #[.string (M.str a0), .string ⟨#[]⟩, .string ⟨#[]⟩, .string ⟨#[]⟩, .string ⟨#[]⟩] 91 (0, 0)) := (hb1.block _ hlt).trans hblk; have c0 := cellB q1 0; have c1 := cellB q1 1; have c2 := cellB q1 2; have c3 := cellB q1 3; have c4 := cellB q1 4; have f0 := frozenB q1 0; have f1 := frozenB q1 1; have f2 := frozenB q1 2; have f3 := frozenB q1 3; have f4 := frozenB q1 4; simp only [List.getElem?_toArray, List.getElem?_cons_zero, List.getElem?_cons_succ] at c0 c1 c2 c3 c4)
          go_roundw
          case rel =>
            refine ⟨[a0, x], y, by simp, by first | rfl | go_num | simp, rfl, hy, ?_, ?_, (HB.out.trans (hb1.mono HB.out.size)).setCell (Nat.le_refl _) _, ?_⟩
            · intro z hz
              rcases List.mem_cons.1 (show z ∈ x :: [a0] by simp only [List.mem_cons, List.not_mem_nil, or_false] at hz ⊢; rcases hz with hz | hz <;> simp [hz]) with rfl | hz
              · exact hx
              · exact HE.out z hz
            · show (if 2 < 5 then _ else _)
              rw [if_pos (by decide), HL1.out]; rfl
            · rw [setB q1]; rfl
          case measure => simp [intOf]
        · have hx := strE hE
          subst hx
          go_wp2_with (go_at_call 21; refine (HC.out).mono ?_; rintro e w1 ⟨rfl, hb1⟩; have q1 : w1.heap[w.heap.size]? = some (.cells #[.string (M.str a0), .string ⟨#[]⟩, .string ⟨#[]⟩, .string ⟨#[]⟩, .string ⟨#[]⟩] 91 (0, 0)) := (hb1.block _ hlt).trans hblk; have c0 := cellB q1 0; have c1 := cellB q1 1; have c2 := cellB q1 2; have c3 := cellB q1 3; have c4 := cellB q1 4; have f0 := frozenB q1 0; have f1 := frozenB q1 1; have f2 := frozenB q1 2; have f3 := frozenB q1 3; have f4 := frozenB q1 4; simp only [List.getElem?_toArray, List.getElem?_cons_zero, List.getElem?_cons_succ] at c0 c1 c2 c3 c4)
          refine bodyPost_ret (v := .tuple #[.agg #[.string ⟨#[]⟩, .string ⟨#[]⟩, .string ⟨#[]⟩, .string ⟨#[]⟩, .string ⟨#[]⟩], .bool false]) (by simp [results, Tryz.results46, go_sem, c0, c1, c2, c3, c4]) rfl ?_
          refine ⟨?_, ?_⟩
          · have : M.five L = none := five_empty (by rw [HL1.out]; simp)
            rw [this]; rfl
          · exact (((((HB.out.trans (hb1.mono HB.out.size)).setCell (Nat.le_refl _) _).setCell (Nat.le_refl _) _).setCell (Nat.le_refl _) _).setCell (Nat.le_refl _) _).setCell (Nat.le_refl _) _
      | none =>
        have HC : Hid (Calls Tryz.prog 21 #[.string (M.str r), .string ⟨#[32]⟩] wr fun e w' => e = .returned (.tuple #[.string (M.str r), .string ⟨#[]⟩, .bool false]) ∧ Below wr.heap.size wr w') := blank_none hr hc wr hG1
        have HL1 : Hid (L = [a0] ++ [r]) := by rw [Hid, HL0.out, pieces_none hc]
        clear hc HL0
        cases hE : (M.str r).toList.isEmpty
        · have hx := strNE hE
          go_wp2_with (go_at_call 21; refine (HC.out).mono ?_; rintro e w1 ⟨rfl, hb1⟩; have q1 : w1.heap[w.heap.size]? = some (.cells #[.string (M.str a0), .string ⟨#[]⟩, .string ⟨#[]⟩, .string ⟨#[]⟩, .string ⟨#[]⟩] 91 (0, 0)) := (hb1.block _ hlt).trans hblk; have c0 := cellB q1 0; have c1 := cellB q1 1; have c2 := cellB q1 2; have c3 := cellB q1 3; have c4 := cellB q1 4; have f0 := frozenB q1 0; have f1 := frozenB q1 1; have f2 := frozenB q1 2; have f3 := frozenB q1 3; have f4 := frozenB q1 4; simp only [List.getElem?_toArray, List.getElem?_cons_zero, List.getElem?_cons_succ] at c0 c1 c2 c3 c4)
          refine bodyPost_ret (v := .tuple #[.agg #[.string ⟨#[]⟩, .string ⟨#[]⟩, .string ⟨#[]⟩, .string ⟨#[]⟩, .string ⟨#[]⟩], .bool false]) (by simp [results, Tryz.results46, go_sem, c0, c1, c2, c3, c4]) rfl ?_
          refine ⟨?_, ?_⟩
          · have : M.five L = none := five_short (by rw [HL1.out]; simp)
            rw [this]; rfl
          · exact (((((HB.out.trans (hb1.mono HB.out.size)).setCell (Nat.le_refl _) _).setCell (Nat.le_refl _) _).setCell (Nat.le_refl _) _).setCell (Nat.le_refl _) _).setCell (Nat.le_refl _) _
        · have hx := strE hE
          subst hx
          go_wp2_with (go_at_call 21; refine (HC.out).mono ?_; rintro e w1 ⟨rfl, hb1⟩; have q1 : w1.heap[w.heap.size]? = some (.cells #[.string (M.str a0), .string ⟨#[]⟩, .string ⟨#[]⟩, .string ⟨#[]⟩, .string ⟨#[]⟩] 91 (0, 0)) := (hb1.block _ hlt).trans hblk; have c0 := cellB q1 0; have c1 := cellB q1 1; have c2 := cellB q1 2; have c3 := cellB q1 3; have c4 := cellB q1 4; have f0 := frozenB q1 0; have f1 := frozenB q1 1; have f2 := frozenB q1 2; have f3 := frozenB q1 3; have f4 := frozenB q1 4; simp only [List.getElem?_toArray, List.getElem?_cons_zero, List.getElem?_cons_succ] at c0 c1 c2 c3 c4)
          refine bodyPost_ret (v := .tuple #[.agg #[.string ⟨#[]⟩, .string ⟨#[]⟩, .string ⟨#[]⟩, .string ⟨#[]⟩, .string ⟨#[]⟩], .bool false]) (by simp [results, Tryz.results46, go_sem, c0, c1, c2, c3, c4]) rfl ?_
          refine ⟨?_, ?_⟩
          · have : M.five L = none := five_empty (by rw [HL1.out]; simp)
            rw [this]; rfl
          · exact (((((HB.out.trans (hb1.mono HB.out.size)).setCell (Nat.le_refl _) _).setCell (Nat.le_refl _) _).setCell (Nat.le_refl _) _).setCell (Nat.le_refl _) _).setCell (Nat.le_refl _) _
    | [a0, a1], _, HE, HL, hblk =>
      have HL0 : Hid (L = [a0, a1] ++ M.pieces 32 r) := HL.out
      have hblk : wr.heap[w.heap.size]? = some (.cells #[.string (M.str a0), .string (M.str a1), .string ⟨#[]⟩, .string ⟨#[]⟩, .string ⟨#[]⟩] 91 (0, 0)) := hblk
      clear HL
      cases hc : M.cutAt 32 r with
      | some xy =>
        obtain ⟨x, y⟩ := xy
        have HC : Hid (Calls Tryz.prog 21 #[.string (M.str r), .string ⟨#[32]⟩] wr fun e w' => e = .returned (.tuple #[.string (M.str x), .string (M.str y), .bool true]) ∧ Below wr.heap.size wr w') := blank_some hr hc wr hG1
        have HL1 : Hid (L = [a0, a1] ++ x :: M.pieces 32 y) := by rw [Hid, HL0.out, pieces_some hc]
        have hy : y.length ≤ 100000 := by have := cutAt_len hc; simp only at this; omega
        clear hc HL0
        cases hE : (M.str x).toList.isEmpty
        · have hx := strNE hE
          go_wp2_with (go_at_call 21; refine (HC.out).mono ?_; rintro e w1 ⟨rfl, hb1⟩; have q1 : w1.heap[w.heap.size]? = some (.cells #[.string (M.str a0), .string (M.str a1), .string ⟨#[]⟩, .string ⟨#[]⟩, .string ⟨#[]⟩] 91 (0, 0)) := (hb1.block _ hlt).trans hblk; have c0 := cellB q1 0; have c1 := cellB q1 1; have c2 := cellB q1 2; have c3 := cellB q1 3; have c4 := cellB q1 4; have f0 := frozenB q1 0; have f1 := frozenB q1 1; have f2 := frozenB q1 2; have f3 := frozenB q1 3; have f4 := frozenB q1 4; simp only [List.getElem?_toArray, List.getElem?_cons_zero, List.getElem?_cons_succ] at c0 c1 c2 c3 c4)
          go_roundw
          case rel =>
            refine ⟨[a0, a1, x], y, by simp, by first | rfl | go_num | simp, rfl, hy, ?_, ?_, (HB.out.trans (hb1.mono HB.out.size)).setCell (Nat.le_refl _) _, ?_⟩
            · intro z hz
              rcases List.mem_cons.1 (show z ∈ x :: [a0, a1] by simp only [List.mem_cons, List.not_mem_nil, or_false] at hz ⊢; rcases hz with hz | hz | hz <;> simp [hz]) with rfl | hz
              · exact hx
              · exact HE.out z hz
            · show (if 3 < 5 then _ else _)
              rw [if_pos (by decide), HL1.out]; rfl
            · rw [setB q1]; rfl
          case measure => simp [intOf]
        · have hx := strE hE
          subst hx
          go_wp2_with (go_at_call 21; refine (HC.out).mono ?_; rintro e w1 ⟨rfl, hb1⟩; have q1 : w1.heap[w.heap.size]? = some (.cells #[.string (M.str a0), .string (M.str a1), .string ⟨#[]⟩, .string ⟨#[]⟩, .string ⟨#[]⟩] 91 (0, 0)) := (hb1.block _ hlt).trans hblk; have c0 := cellB q1 0; have c1 := cellB q1 1; have c2 := cellB q1 2; have c3 := cellB q1 3; have c4 := cellB q1 4; have f0 := frozenB q1 0; have f1 := frozenB q1 1; have f2 := frozenB q1 2; have f3 := frozenB q1 3; have f4 := frozenB q1 4; simp only [List.getElem?_toArray, List.getElem?_cons_zero, List.getElem?_cons_succ] at c0 c1 c2 c3 c4)
          refine bodyPost_ret (v := .tuple #[.agg #[.string ⟨#[]⟩, .string ⟨#[]⟩, .string ⟨#[]⟩, .string ⟨#[]⟩, .string ⟨#[]⟩], .bool false]) (by simp [results, Tryz.results46, go_sem, c0, c1, c2, c3, c4]) rfl ?_
          refine ⟨?_, ?_⟩
          · have : M.five L = none := five_empty (by rw [HL1.out]; simp)
            rw [this]; rfl
          · exact (((((HB.out.trans (hb1.mono HB.out.size)).setCell (Nat.le_refl _) _).setCell (Nat.le_refl _) _).setCell (Nat.le_refl _) _).setCell (Nat.le_refl _) _).setCell (Nat.le_refl _) _
      | none =>
        have HC : Hid (Calls Tryz.prog 21 #[.string (M.str r), .string ⟨#[32]⟩] wr fun e w' => e = .returned (.tuple #[.string (M.str r), .string ⟨#[]⟩, .bool false]) ∧ Below wr.heap.size wr w') := blank_none hr hc wr hG1
        have HL1 : Hid (L = [a0, a1] ++ [r]) := by rw [Hid, HL0.out, pieces_none hc]
        clear hc HL0
        cases hE : (M.str r).toList.isEmpty
        · have hx := strNE hE
          go_wp2_with (go_at_call 21; refine (HC.out).mono ?_; rintro e w1 ⟨rfl, hb1⟩; have q1 : w1.heap[w.heap.size]? = some (.cells #[.string (M.str a0), .string (M.str a1), .string ⟨#[]⟩, .string ⟨#[]⟩, .string ⟨#[]⟩] 91 (0, 0)) := (hb1.block _ hlt).trans hblk; have c0 := cellB q1 0; have c1 := cellB q1 1; have c2 := cellB q1 2; have c3 := cellB q1 3; have c4 := cellB q1 4; have f0 := frozenB q1 0; have f1 := frozenB q1 1; have f2 := frozenB q1 2; have f3 := frozenB q1 3; have f4 := frozenB q1 4; simp only [List.getElem?_toArray, List.getElem?_cons_zero, List.getElem?_cons_succ] at c0 c1 c2 c3 c4)
          refine bodyPost_ret (v := .tuple #[.agg #[.string ⟨#[]⟩, .string ⟨#[]⟩, .string ⟨#[]⟩, .string ⟨#[]⟩, .string ⟨#[]⟩], .bool false]) (by simp [results, Tryz.results46, go_sem, c0, c1, c2, c3, c4]) rfl ?_
          refine ⟨?_, ?_⟩
          · have : M.five L = none := five_short (by rw [HL1.out]; simp)
            rw [this]; rfl
          · exact (((((HB.out.trans (hb1.mono HB.out.size)).setCell (Nat.le_refl _) _).setCell (Nat.le_refl _) _).setCell (Nat.le_refl _) _).setCell (Nat.le_refl _) _).setCell (Nat.le_refl _) _
        · have hx := strE hE
          subst hx
          go_wp2_with (go_at_call 21; refine (HC.out).mono ?_; rintro e w1 ⟨rfl, hb1⟩; have q1 : w1.heap[w.heap.size]? = some (.cells #[.string (M.str a0), .string (M.str a1), .string ⟨#[]⟩, .string ⟨#[]⟩, .string ⟨#[]⟩] 91 (0, 0)) := (hb1.block _ hlt).trans hblk; have c0 := cellB q1 0; have c1 := cellB q1 1; have c2 := cellB q1 2; have c3 := cellB q1 3; have c4 := cellB q1 4; have f0 := frozenB q1 0; have f1 := frozenB q1 1; have f2 := frozenB q1 2; have f3 := frozenB q1 3; have f4 := frozenB q1 4; simp only [List.getElem?_toArray, List.getElem?_cons_zero, List.getElem?_cons_succ] at c0 c1 c2 c3 c4)
          refine bodyPost_ret (v := .tuple #[.agg #[.string ⟨#[]⟩, .string ⟨#[]⟩, .string ⟨#[]⟩, .string ⟨#[]⟩, .string ⟨#[]⟩], .bool false]) (by simp [results, Tryz.results46, go_sem, c0, c1, c2, c3, c4]) rfl ?_
          refine ⟨?_, ?_⟩
          · have : M.five L = none := five_empty (by rw [HL1.out]; simp)
            rw [this]; rfl
          · exact (((((HB.out.trans (hb1.mono HB.out.size)).setCell (Nat.le_refl _) _).setCell (Nat.le_refl _) _).setCell (Nat.le_refl _) _).setCell (Nat.le_refl _) _).setCell (Nat.le_refl _) _
    | [a0, a1, a2], _, HE, HL, hblk =>
      have HL0 : Hid (L = [a0, a1, a2] ++ M.pieces 32 r) := HL.out
      have hblk : wr.heap[w.heap.size]? = some (.cells #[.string (M.str a0), .string (M.str a1), .string (M.str a2), .string ⟨#[]⟩, .string ⟨#[]⟩] 91 (0, 0)) := hblk
      clear HL
      cases hc : M.cutAt 32 r with
      | some xy =>
        obtain ⟨x, y⟩ := xy
        have HC : Hid (Calls Tryz.prog 21 #[.string (M.str r), .string ⟨#[32]⟩] wr fun e w' => e = .returned (.tuple #[.string (M.str x), .string (M.str y), .bool true]) ∧ Below wr.heap.size wr w') := blank_some hr hc wr hG1
        have HL1 : Hid (L = [a0, a1, a2] ++ x :: M.pieces 32 y) := by rw [Hid, HL0.out, pieces_some hc]
        have hy : y.length ≤ 100000 := by have := cutAt_len hc; simp only at this; omega
        clear hc HL0
        cases hE : (M.str x).toList.isEmpty
        · have hx := strNE hE
          go_wp2_with (go_at_call 21; refine (HC.out).mono ?_; rintro e w1 ⟨rfl, hb1⟩; have q1 : w1.heap[w.heap.size]? = some (.cells #[.string (M.str a0), .string (M.str a1), .string (M.str a2), .string ⟨#[]⟩, .string ⟨#[]⟩] 91 (0, 0)) := (hb1.block _ hlt).trans hblk; have c0 := cellB q1 0; have c1 := cellB q1 1; have c2 := cellB q1 2; have c3 := cellB q1 3; have c4 := cellB q1 4; have f0 := frozenB q1 0; have f1 := frozenB q1 1; have f2 := frozenB q1 2; have f3 := frozenB q1 3; have f4 := frozenB q1 4; simp only [List.getElem?_toArray, List.getElem?_cons_zero, List.getElem?_cons_succ] at c0 c1 c2 c3 c4)
          go_roundw
          case rel =>
            refine ⟨[a0, a1, a2, x], y, by simp, by first | rfl | go_num | simp, rfl, hy, ?_, ?_, (HB.out.trans (hb1.mono HB.out.size)).setCell (Nat.le_refl _) _, ?_⟩
            · intro z hz
              rcases List.mem_cons.1 (show z ∈ x :: [a0, a1, a2] by simp only [List.mem_cons, List.not_mem_nil, or_false] at hz ⊢; rcases hz with hz | hz | hz | hz <;> simp [hz]) with rfl | hz
              · exact hx
              · exact HE.out z hz
            · show (if 4 < 5 then _ else _)
              rw [if_pos (by decide), HL1.out]; rfl
            · rw [setB q1]; rfl
          case measure => simp [intOf]
        · have hx := strE hE
          subst hx
          go_wp2_with (go_at_call 21; refine (HC.out).mono ?_; rintro e w1 ⟨rfl, hb1⟩; have q1 : w1.heap[w.heap.size]? = some (.cells #[.string (M.str a0), .string (M.str a1), .string (M.str a2), .string ⟨#[]⟩, .string ⟨#[]⟩] 91 (0, 0)) := (hb1.block _ hlt).trans hblk; have c0 := cellB q1 0; have c1 := cellB q1 1; have c2 := cellB q1 2; have c3 := cellB q1 3; have c4 := cellB q1 4; have f0 := frozenB q1 0; have f1 := frozenB q1 1; have f2 := frozenB q1 2; have f3 := frozenB q1 3; have f4 := frozenB q1 4; simp only [List.getElem?_toArray, List.getElem?_cons_zero, List.getElem?_cons_succ] at c0 c1 c2 c3 c4)
          refine bodyPost_ret (v := .tuple #[.agg #[.string ⟨#[]⟩, .string ⟨#[]⟩, .string ⟨#[]⟩, .string ⟨#[]⟩, .string ⟨#[]⟩], .bool false]) (by simp [results, Tryz.results46, go_sem, c0, c1, c2, c3, c4]) rfl ?_
          refine ⟨?_, ?_⟩
          · have : M.five L = none := five_empty (by rw [HL1.out]; simp)
            rw [this]; rfl
          · exact (((((HB.out.trans (hb1.mono HB.out.size)).setCell (Nat.le_refl _) _).setCell (Nat.le_refl _) _).setCell (Nat.le_refl _) _).setCell (Nat.le_refl _) _).setCell (Nat.le_refl _) _
      | none =>
        have HC : Hid (Calls Tryz.prog 21 #[.string (M.str r), .string ⟨#[32]⟩] wr fun e w' => e = .returned (.tuple #[.string (M.str r), .string ⟨#[]⟩, .bool false]) ∧ Below wr.heap.size wr w') := blank_none hr hc wr hG1
        have HL1 : Hid (L = [a0, a1, a2] ++ [r]) := by rw [Hid, HL0.out, pieces_none hc]
        clear hc HL0
        cases hE : (M.str r).toList.isEmpty
        · have hx := strNE hE
          go_wp2_with (go_at_call 21; refine (HC.out).mono ?_; rintro e w1 ⟨rfl, hb1⟩; have q1 : w1.heap[w.heap.size]? = some (.cells #[.string (M.str a0), .string (M.str a1), .string (M.str a2), .string ⟨#[]⟩, .string ⟨#[]⟩] 91 (0, 0)) := (hb1.block _ hlt).trans hblk; have c0 := cellB q1 0; have c1 := cellB q1 1; have c2 := cellB q1 2; have c3 := cellB q1 3; have c4 := cellB q1 4; have f0 := frozenB q1 0; have f1 := frozenB q1 1; have f2 := frozenB q1 2; have f3 := frozenB q1 3; have f4 := frozenB q1 4; simp only [List.getElem?_toArray, List.getElem?_cons_zero, List.getElem?_cons_succ] at c0 c1 c2 c3 c4)
          refine bodyPost_ret (v := .tuple #[.agg #[.string ⟨#[]⟩, .string ⟨#[]⟩, .string ⟨#[]⟩, .string ⟨#[]⟩, .string ⟨#[]⟩], .bool false]) (by simp [results, Tryz.results46, go_sem, c0, c1, c2, c3, c4]) rfl ?_
          refine ⟨?_, ?_⟩
          · have : M.five L = none := five_short (by rw [HL1.out]; simp)
            rw [this]; rfl
          · exact (((((HB.out.trans (hb1.mono HB.out.size)).setCell (Nat.le_refl _) _).setCell (Nat.le_refl _) _).setCell (Nat.le_refl _) _).setCell (Nat.le_refl _) _).setCell (Nat.le_refl _) _
        · have hx := strE hE
          subst hx
          go_wp2_with (go_at_call 21; refine (HC.out).mono ?_; rintro e w1 ⟨rfl, hb1⟩; have q1 : w1.heap[w.heap.size]? = some (.cells #[.string (M.str a0), .string (M.str a1), .string (M.str a2), .string ⟨#[]⟩, .string ⟨#[]⟩] 91 (0, 0)) := (hb1.block _ hlt).trans hblk; have c0 := cellB q1 0; have c1 := cellB q1 1; have c2 := cellB q1 2; have c3 := cellB q1 3; have c4 := cellB q1 4; have f0 := frozenB q1 0; have f1 := frozenB q1 1; have f2 := frozenB q1 2; have f3 := frozenB q1 3; have f4 := frozenB q1 4; simp only [List.getElem?_toArray, List.getElem?_cons_zero, List.getElem?_cons_succ] at c0 c1 c2 c3 c4)
          refine bodyPost_ret (v := .tuple #[.agg #[.string ⟨#[]⟩, .string ⟨#[]⟩, .string ⟨#[]⟩, .string ⟨#[]⟩, .string ⟨#[]⟩], .bool false]) (by simp [results, Tryz.results46, go_sem, c0, c1, c2, c3, c4]) rfl ?_
          refine ⟨?_, ?_⟩
          · have : M.five L = none := five_empty (by rw [HL1.out]; simp)
            rw [this]; rfl
          · exact (((((HB.out.trans (hb1.mono HB.out.size)).setCell (Nat.le_refl _) _).setCell (Nat.le_refl _) _).setCell (Nat.le_refl _) _).setCell (Nat.le_refl _) _).setCell (Nat.le_refl _) _
    | [a0, a1, a2, a3], _, HE, HL, hblk =>
      have HL0 : Hid (L = [a0, a1, a2, a3] ++ M.pieces 32 r) := HL.out
      have hblk : wr.heap[w.heap.size]? = some (.cells #[.string (M.str a0), .string (M.str a1), .string (M.str a2), .string (M.str a3), .string ⟨#[]⟩] 91 (0, 0)) := hblk
      clear HL
      cases hc : M.cutAt 32 r with
      | some xy =>
        obtain ⟨x, y⟩ := xy
        have HC : Hid (Calls Tryz.prog 21 #[.string (M.str r), .string ⟨#[32]⟩] wr fun e w' => e = .returned (.tuple #[.string (M.str x), .string (M.str y), .bool true]) ∧ Below wr.heap.size wr w') := blank_some hr hc wr hG1
        have HL1 : Hid (L = [a0, a1, a2, a3] ++ x :: M.pieces 32 y) := by rw [Hid, HL0.out, pieces_some hc]
        have hy : y.length ≤ 100000 := by have := cutAt_len hc; simp only at this; omega
        clear hc HL0
        cases hE : (M.str x).toList.isEmpty
        · have hx := strNE hE
          go_wp2_with (go_at_call 21; refine (HC.out).mono ?_; rintro e w1 ⟨rfl, hb1⟩; have q1 : w1.heap[w.heap.size]? = some (.cells #[.string (M.str a0), .string (M.str a1), .string (M.str a2), .string (M.str a3), .string ⟨#[]⟩] 91 (0, 0)) := (hb1.block _ hlt).trans hblk; have c0 := cellB q1 0; have c1 := cellB q1 1; have c2 := cellB q1 2; have c3 := cellB q1 3; have c4 := cellB q1 4; have f0 := frozenB q1 0; have f1 := frozenB q1 1; have f2 := frozenB q1 2; have f3 := frozenB q1 3; have f4 := frozenB q1 4; simp only [List.getElem?_toArray, List.getElem?_cons_zero, List.getElem?_cons_succ] at c0 c1 c2 c3 c4)
          refine bodyPost_ret (v := .tuple #[.agg #[.string ⟨#[]⟩, .string ⟨#[]⟩, .string ⟨#[]⟩, .string ⟨#[]⟩, .string ⟨#[]⟩], .bool false]) (by simp [results, Tryz.results46, go_sem, c0, c1, c2, c3, c4]) rfl ?_
          refine ⟨?_, ?_⟩
          · have : M.five L = none := five_short (by rw [HL1.out]; have := List.length_pos_iff.2 (pieces_ne 32 y); simp only [List.cons_append, List.nil_append, List.length_cons]; omega)
            rw [this]; rfl
          · exact (((((HB.out.trans (hb1.mono HB.out.size)).setCell (Nat.le_refl _) _).setCell (Nat.le_refl _) _).setCell (Nat.le_refl _) _).setCell (Nat.le_refl _) _).setCell (Nat.le_refl _) _
        · have hx := strE hE
          subst hx
          go_wp2_with (go_at_call 21; refine (HC.out).mono ?_; rintro e w1 ⟨rfl, hb1⟩; have q1 : w1.heap[w.heap.size]? = some (.cells #[.string (M.str a0), .string (M.str a1), .string (M.str a2), .string (M.str a3), .string ⟨#[]⟩] 91 (0, 0)) := (hb1.block _ hlt).trans hblk; have c0 := cellB q1 0; have c1 := cellB q1 1; have c2 := cellB q1 2; have c3 := cellB q1 3; have c4 := cellB q1 4; have f0 := frozenB q1 0; have f1 := frozenB q1 1; have f2 := frozenB q1 2; have f3 := frozenB q1 3; have f4 := frozenB q1 4; simp only [List.getElem?_toArray, List.getElem?_cons_zero, List.getElem?_cons_succ] at c0 c1 c2 c3 c4)
          refine bodyPost_ret (v := .tuple #[.agg #[.string ⟨#[]⟩, .string ⟨#[]⟩, .string ⟨#[]⟩, .string ⟨#[]⟩, .string ⟨#[]⟩], .bool false]) (by simp [results, Tryz.results46, go_sem, c0, c1, c2, c3, c4]) rfl ?_
          refine ⟨?_, ?_⟩
          · have : M.five L = none := five_empty (by rw [HL1.out]; simp)
            rw [this]; rfl
          · exact (((((HB.out.trans (hb1.mono HB.out.size)).setCell (Nat.le_refl _) _).setCell (Nat.le_refl _) _).setCell (Nat.le_refl _) _).setCell (Nat.le_refl _) _).setCell (Nat.le_refl _) _
      | none =>
        have HC : Hid (Calls Tryz.prog 21 #[.string (M.str r), .string ⟨#[32]⟩] wr fun e w' => e = .returned (.tuple #[.string (M.str r), .string ⟨#[]⟩, .bool false]) ∧ Below wr.heap.size wr w') := blank_none hr hc wr hG1
        have HL1 : Hid (L = [a0, a1, a2, a3] ++ [r]) := by rw [Hid, HL0.out, pieces_none hc]
        clear hc HL0
        cases hE : (M.str r).toList.isEmpty
        · have hx := strNE hE
          go_wp2_with (go_at_call 21; refine (HC.out).mono ?_; rintro e w1 ⟨rfl, hb1⟩; have q1 : w1.heap[w.heap.size]? = some (.cells #[.string (M.str a0), .string (M.str a1), .string (M.str a2), .string (M.str a3), .string ⟨#[]⟩] 91 (0, 0)) := (hb1.block _ hlt).trans hblk; have c0 := cellB q1 0; have c1 := cellB q1 1; have c2 := cellB q1 2; have c3 := cellB q1 3; have c4 := cellB q1 4; have f0 := frozenB q1 0; have f1 := frozenB q1 1; have f2 := frozenB q1 2; have f3 := frozenB q1 3; have f4 := frozenB q1 4; simp only [List.getElem?_toArray, List.getElem?_cons_zero, List.getElem?_cons_succ] at c0 c1 c2 c3 c4)
          go_roundw
          case rel =>
            refine ⟨[a0, a1, a2, a3, r], [], by simp, by first | rfl | go_num | simp, rfl, by simp, ?_, ?_, (HB.out.trans (hb1.mono HB.out.size)).setCell (Nat.le_refl _) _, ?_⟩
            · intro z hz
              rcases List.mem_cons.1 (show z ∈ r :: [a0, a1, a2, a3] by simp only [List.mem_cons, List.not_mem_nil, or_false] at hz ⊢; rcases hz with hz | hz | hz | hz | hz <;> simp [hz]) with rfl | hz
              · exact hx
              · exact HE.out z hz
            · show (if 5 < 5 then _ else _)
              rw [if_neg (by decide), HL1.out]; rfl
            · rw [setB q1]; rfl
          case measure => simp [intOf]
        · have hx := strE hE
          subst hx
          go_wp2_with (go_at_call 21; refine (HC.out).mono ?_; rintro e w1 ⟨rfl, hb1⟩; have q1 : w1.heap[w.heap.size]? = some (.cells #[.string (M.str a0), .string (M.str a1), .string (M.str a2), .string (M.str a3), .string ⟨#[]⟩] 91 (0, 0)) := (hb1.block _ hlt).trans hblk; have c0 := cellB q1 0; have c1 := cellB q1 1; have c2 := cellB q1 2; have c3 := cellB q1 3; have c4 := cellB q1 4; have f0 := frozenB q1 0; have f1 := frozenB q1 1; have f2 := frozenB q1 2; have f3 := frozenB q1 3; have f4 := frozenB q1 4; simp only [List.getElem?_toArray, List.getElem?_cons_zero, List.getElem?_cons_succ] at c0 c1 c2 c3 c4)
          refine bodyPost_ret (v := .tuple #[.agg #[.string ⟨#[]⟩, .string ⟨#[]⟩, .string ⟨#[]⟩, .string ⟨#[]⟩, .string ⟨#[]⟩], .bool false]) (by simp [results, Tryz.results46, go_sem, c0, c1, c2, c3, c4]) rfl ?_
          refine ⟨?_, ?_⟩
          · have : M.five L = none := five_empty (by rw [HL1.out]; simp)
            rw [this]; rfl
          · exact (((((HB.out.trans (hb1.mono HB.out.size)).setCell (Nat.le_refl _) _).setCell (Nat.le_refl _) _).setCell (Nat.le_refl _) _).setCell (Nat.le_refl _) _).setCell (Nat.le_refl _) _
    | [a0, a1, a2, a3, a4], _, HE, HL, hblk =>
      have HL0 : Hid (L = [a0, a1, a2, a3, a4]) := HL.out
      have hblk : wr.heap[w.heap.size]? = some (.cells #[.string (M.str a0), .string (M.str a1), .string (M.str a2), .string (M.str a3), .string (M.str a4)] 91 (0, 0)) := hblk
      clear HL
      have c0 := cellB hblk 0
      have c1 := cellB hblk 1
      have c2 := cellB hblk 2
      have c3 := cellB hblk 3
      have c4 := cellB hblk 4
      have f0 := frozenB hblk 0
      have f1 := frozenB hblk 1
      have f2 := frozenB hblk 2
      have f3 := frozenB hblk 3
      have f4 := frozenB hblk 4
      simp only [List.getElem?_toArray, List.getElem?_cons_zero, List.getElem?_cons_succ] at c0 c1 c2 c3 c4
      go_wp2
      refine bodyPost_ret (v := .tuple #[.agg #[.string (M.str a0), .string (M.str a1), .string (M.str a2), .string (M.str a3), .string (M.str a4)], .bool true]) (by simp [results, Tryz.results46, go_sem, c0, c1, c2, c3, c4]) rfl ?_
      refine ⟨?_, ?_⟩
      · have : M.five L = some (a0, a1, a2, a3, a4) := by
          rw [HL0.out]
          exact five_full ⟨HE.out a0 (by simp), HE.out a1 (by simp), HE.out a2 (by simp), HE.out a3 (by simp), HE.out a4 (by simp)⟩
        rw [this]; rfl
      · exact ((((HB.out.setCell (Nat.le_refl _) _).setCell (Nat.le_refl _) _).setCell (Nat.le_refl _) _).setCell (Nat.le_refl _) _).setCell (Nat.le_refl _) _
    | _ :: _ :: _ :: _ :: _ :: _ :: _, h, _, _, _ => simp at h

end Go.Proofs.YthiknlnhdjoipaaGreatDoor

namespace Go.Proofs.YthiknlnhdjoipaaGreatDoor
open Go Go.RowKit
set_option linter.unusedVariables false
attribute [local go_sem] lat_cell

def nibV (a : UInt8) : Int := match M.nib a with | some n => (n : Int) | none => -1

theorem ibyte_any (a : UInt8) (W : World) :
    Calls Tryz.prog 113 #[.string ⟨#[48, 49, 50, 51, 52, 53, 54, 55, 56, 57, 97, 98, 99, 100, 101, 102]⟩, .int .u8 a.toNat] W fun e w' => e = .returned (.int .i64 (nibV a)) ∧ w' = W := by
  have := Go.Proofs.Any.strings_IndexByte (P := Tryz.prog) (ρ := Tryz.lays137_ren) Tryz.lays137 ⟨#[48, 49, 50, 51, 52, 53, 54, 55, 56, 57, 97, 98, 99, 100, 101, 102]⟩ a.toNat W
  have e : ((a.toNat : Int).toNat).toUInt8 = a := by simp
  rw [e] at this
  have e2 : Lib.indexByte M.digits a = nibV a := nib_index a
  rw [← e2]
  exact this

theorem index_letter {P : Program} {t : M.Txt} {n : Nat} {a : UInt8} {r : M.Txt} {ty : TypeId} (h : P.underlying ty = some .string) (hd : t.drop n = a :: r) (w : World) :
    (Instr.index ty (.string (M.str t)) (.int .i64 n)).run P w = .ok (.int .u8 a.toNat) w := by
  have hn : n < t.length := by
    rcases Nat.lt_or_ge n t.length with h | h
    · exact h
    · rw [List.drop_of_length_le h] at hd; cases hd
  have hsz := str_size t
  rw [run_index_string w ty (M.str t) .i64 n h, dif_pos ⟨by omega, by omega⟩]
  have : t[n] = a := by
    have := List.drop_eq_getElem_cons hn
    rw [this] at hd
    exact (List.cons.inj hd).1
  have e : (M.str t)[((n : Int)).toNat]'(by simp; omega) = t[n] := by
    simp only [Int.toNat_natCast]
    rfl
  rw [e, this]

theorem pairs_odd : ∀ (t : M.Txt), ¬ t.length % 2 = 0 → M.pairs t = none
  | [], h => by simp at h
  | [_], _ => rfl
  | a :: b :: r, h => by
    have ih := pairs_odd r (by simp at h; omega)
    simp only [M.pairs, ih]
    cases M.nib a <;> cases M.nib b <;> rfl

set_option maxHeartbeats 4000000 in
set_option maxRecDepth 100000 in
theorem pairs_any (t : M.Txt) (hs : t.length ≤ 100000) (w : World) :
    Calls Tryz.prog 80 #[.string (M.str t)] w fun e w' => Below w.heap.size w w' ∧ ∃ v, e = .returned (.tuple #[v, .bool (M.bytesOf t).isSome]) ∧ (∃ ad nn cc, v = .slice ad nn cc) ∧ (∀ bs, M.bytesOf t = some bs → w'.ownsRow w.heap.size 5 1 v bs.length (bs.map (Value.int .u8))) := by
  obtain ⟨i0, hi, hz0, hz1, hz2⟩ := info_parts (Tryz.extra156.infoByte)
  have hz0 : i0.zero = some (.int .u8 0) := hz0
  have hi : Tryz.prog.info? 5 = some i0 := hi
  cases hd : ((M.str t).toList == [45])
  · have hne : t ≠ [45] := by rw [Lib.toList_data, beq_eq_false_iff_ne] at hd; exact fun h => hd (by rw [h]; rfl)
    have HBy : Hid (M.bytesOf t = M.pairs t) := by rw [Hid, M.bytesOf, if_neg hne]
    have hsz : (M.str t).size = t.length := str_size t
    by_cases hodd : t.length % 2 = 0
    · have hm : ((t.length : Int) % 2 != 0) = false := by simp; omega
      go_enter Tryz.func80, Tryz.ntmps80
      go_wp2_with fail
      go_loopw [4, 5] (fun s4 s5 wr => ∃ (acc : List Int) (r : M.Txt) (n : Nat), Hid (n = 2 * acc.length) ∧ s5 = .int .i64 n ∧ n + r.length = t.length ∧ t.drop n = r ∧ wr.ownsRow w.heap.size 5 1 s4 acc.length (acc.map (Value.int .u8)) ∧ Hid (M.pairs t = (M.pairs r).map (acc ++ ·)) ∧ Hid (Below w.heap.size w wr)) (fun _ s5 _ => t.length - (intOf s5).toNat)
      case atStart => exact ⟨[], t, 0, rfl, rfl, by omega, rfl, World.ownsRow_nil _ _ _ _, (show M.pairs t = (M.pairs t).map ([] ++ ·) by simp), Below.refl _ _⟩
      case round =>
        obtain ⟨acc, r, n, HN, rfl, hlen, hdr, hown, HP, HB⟩ := hrel
        match r, hlen, hdr, HP with
        | [], hlen, hdr, HP =>
          have hnt : n = t.length := by simpa using hlen
          have HP1 : Hid (M.bytesOf t = some acc) := by rw [Hid, HBy.out, HP.out]; simp [M.pairs]
          clear HP HBy
          subst hnt
          go_wp2
          go_ret2
          refine ⟨HB.out, u4, ?_, own_form hown, ?_⟩
          · rw [HP1.out]; rfl
          · intro bs hbs
            rw [HP1.out] at hbs
            cases hbs
            exact hown
        | [a], hlen, _, _ => have := HN.out; simp at hlen; omega
        | a :: b :: r', hlen, hdr, HP =>
          have hnl : (n : Int) < (t.length : Int) := by simp at hlen; omega
          have hn1 : t.drop (n + 1) = b :: r' := by rw [← List.drop_drop, hdr]; rfl
          have hn2 : t.drop (n + 2) = r' := by rw [← List.drop_drop, hdr]; rfl
          have hi0 : ∀ w, (Instr.index 9 (.string (M.str t)) (.int .i64 n)).run Tryz.prog w = .ok (.int .u8 a.toNat) w := index_letter Tryz.underlying9 hdr
          have hi1 : ∀ w, (Instr.index 9 (.string (M.str t)) (.int .i64 ((n : Int) + 1))).run Tryz.prog w = .ok (.int .u8 b.toNat) w := index_letter (n := n + 1) Tryz.underlying9 hn1
          clear hdr hn1 hd hne
          have hacc : acc.length ≤ 100000 := by have := HN.out; omega
          have K1 : Hid (∀ (c : UInt8) W, Calls Tryz.prog 113 #[.string ⟨#[48, 49, 50, 51, 52, 53, 54, 55, 56, 57, 97, 98, 99, 100, 101, 102]⟩, .int .u8 c.toNat] W fun e w' => e = .returned (.int .i64 (nibV c)) ∧ w' = W) := ibyte_any
          go_wp2_with fail
          refine wp_region_lat (by kernel_rfl) (by kernel_rfl) ?_
          intro hne
          repeat (go_big_quiet_step ((go_at_call 113; exact lat_of_same (K1.out _ _))))
          refine wpQuiet_nil ?_
          intro w2 hb2
          have hb2 := lat_out hb2
          clear hne hi0 hi1
          have hown2 := hown.kept (grown_of_below hb2 Option.none) (by cases hv : u4.ownBlock <;> simp)
          have HB2 : Hid (Below w.heap.size w w2) := HB.out.trans (hb2.mono HB.out.size)
          have hsize2 : w.heap.size ≤ w2.heap.size := HB2.out.size
          have bad : Hid (M.nib a = none ∨ M.nib b = none → M.bytesOf t = none) := by
            intro hor
            rw [HBy.out, HP.out]
            rcases hor with h | h
            · simp [M.pairs, h]
            · cases hx : M.nib a <;> simp [M.pairs, h, hx]
          cases hx : M.nib a with
          | none =>
            have HX : Hid (M.bytesOf t = none) := bad.out (.inl hx)
            have e1 : nibV a = -1 := by rw [nibV, hx]
            rw [e1]
            clear bad hx e1 HBy HP
            go_wp2
            go_ret2
            exact ⟨HB2.out, _, by rw [HX.out]; rfl, ⟨_, _, _, rfl⟩, fun bs hbs => by rw [HX.out] at hbs; cases hbs⟩
          | some x =>
            cases hy : M.nib b with
            | none =>
              have HX : Hid (M.bytesOf t = none) := bad.out (.inr hy)
              have e1 : nibV a = (x : Int) := by rw [nibV, hx]
              have e2 : nibV b = -1 := by rw [nibV, hy]
              have hx0 : ¬ ((x : Int) < 0) := by omega
              rw [e1, e2]
              clear bad hx hy e1 e2 HBy HP
              go_wp2
              go_ret2
              exact ⟨HB2.out, _, by rw [HX.out]; rfl, ⟨_, _, _, rfl⟩, fun bs hbs => by rw [HX.out] at hbs; cases hbs⟩
            | some y =>
              have hx16 := (digit_nib hx).1
              have hy16 := (digit_nib hy).1
              have HX : Hid (M.pairs t = (M.pairs r').map ((acc ++ [((16 * x + y : Nat) : Int)]) ++ ·)) := by
                rw [Hid, HP.out]
                simp only [M.pairs, hx, hy, Option.map_map]
                congr 1
                funext l
                simp
              have e1 : nibV a = (x : Int) := by rw [nibV, hx]
              have e2 : nibV b = (y : Int) := by rw [nibV, hy]
              have hx0 : ¬ ((x : Int) < 0) := by omega
              have hy0 : ¬ ((y : Int) < 0) := by omega
              rw [e1, e2]
              clear bad hx hy e1 e2 HP
              obtain ⟨z, hz⟩ : ∃ z : Nat, z = 16 * x + y := ⟨_, rfl⟩
              rw [← hz] at HX
              have hbits : bits .or .i64 ((x : Int) * 16) (y : Int) = (z : Int) := by
                rw [bits_join .i64 8 (by decide) (fun n h0 h1 => by have : n < 256 := h1; unfold IntKind.wrap; simp [IntKind.signed, IntKind.bits]; omega) 4 ((x : Int) * 16) y (by omega) (by omega) (by omega) (by omega) (by omega) (by omega)]
                omega
              have hz256 : (z : Int) % 256 = (z : Int) := by omega
              have hzl : z < 256 := by omega
              clear hz
              go_wp2_with (at_builtin; refine wpList_append_own _ rfl _ _ 37 rfl w.heap.size 5 i0 (.int .u8 0) 1 1 Tryz.underlying37 hi hz0 hz1 hz2 rfl (by decide) _ _ _ rfl (hown2.alloc _) ⟨w2.heap.size, 0, none⟩ 1 1 [.int .u8 z] rfl rfl (cell_one_new _ _ _) (fun u hu => by simp at hu; subst hu; rfl) (by unfold maxLen; omega) (by omega) (by simp; omega) ?_; intro v' w3 hown' hgrow3 hnil3)
              go_roundw
              case rel =>
                refine ⟨acc ++ [(z : Int)], r', n + 2, ?_, by go_num, by simp at hlen; omega, hn2, ?_, HX, ?_⟩
                · have := HN.out; show n + 2 = _; simp; omega
                · rw [List.length_append, List.map_append]; exact hown'
                · refine (HB2.out.alloc hsize2 _).grown hgrow3 (by simp; omega) (fun k hk => ?_)
                  exact (hown2.lt k hk).1
              case measure => simp [intOf]; omega
    · have hm : ((t.length : Int) % 2 != 0) = true := by simp; omega
      have HP1 : Hid (M.bytesOf t = none) := by
        rw [Hid, HBy.out]
        exact pairs_odd t hodd
      clear HBy
      go_enter Tryz.func80, Tryz.ntmps80
      go_wp2
      go_ret2
      exact ⟨Below.refl _ _, _, by rw [HP1.out]; rfl, ⟨_, _, _, rfl⟩, fun bs hbs => by rw [HP1.out] at hbs; cases hbs⟩
  · have he : t = [45] := by rw [Lib.toList_data, beq_iff_eq] at hd; simpa [M.str] using hd
    have HP1 : Hid (M.bytesOf t = some []) := by rw [Hid, M.bytesOf, if_pos he]
    clear he
    go_enter Tryz.func80, Tryz.ntmps80
    go_wp2
    go_ret2
    exact ⟨Below.refl _ _, _, by rw [HP1.out]; rfl, ⟨_, _, _, rfl⟩, fun bs hbs => by rw [HP1.out] at hbs; cases hbs; exact World.ownsRow_nil _ _ _ _⟩

end Go.Proofs.YthiknlnhdjoipaaGreatDoor
