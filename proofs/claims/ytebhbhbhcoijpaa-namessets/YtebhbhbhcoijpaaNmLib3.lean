/-
  The contracts of slices.IsSorted, slices.ContainsFunc and slices.DeleteFunc at texts, with the functions that are handed to them.
-/
import Derived.Test.YtebhbhbhcoijpaaNmLib2
namespace Go.Proofs.Ytebhbhbhcoijpaa
open Go Go.RowKit Go.Sort
set_option linter.unusedVariables false

theorem sorted_any (l : List ByteArray) (a : Option Addr) (c : Nat) (w : World) (h : StrsAt w (.slice a l.length c) l) (hs : M.Strict l) (hl : l.length ≤ 1000) :
    Calls Try.prog 25 #[.slice a l.length c] w fun e w' => e = .returned (.bool true) ∧ Below w.heap.size w w' := by
  by_cases h0 : l.length = 0
  · rw [h0]
    exact (AnyO.slices_IsSorted_string_none Try.sortedS a c w).mono fun e w' ⟨he, hw⟩ => ⟨he, by rw [hw]; exact Below.refl _ _⟩
  · obtain ⟨b, off, rfl, hc⟩ := h.1.all (by omega)
    have := AnyO.slices_IsSorted_string Try.sortedS b off c l.toArray w (fun i hi => by
      have hi' : i < l.length := by simpa using hi
      have := hc i 0 hi' (by decide)
      rw [Nat.mul_one, Nat.add_zero] at this
      rw [this, getElem!_pos _ i hi, List.getD_eq_getElem?_getD, List.getElem?_eq_getElem hi']
      simp) (by simp; omega)
    have hd : Lib.downOK (fun x y : ByteArray => decide (x.data.toList < y.data.toList)) l.toArray (l.toArray.size - 1) = true := by
      rw [Lib.downOK_iff]
      intro i hi
      have hi1 : i + 1 < l.length := by simp at hi; omega
      rw [getElem!_pos _ (i + 1) (by simpa using hi1), getElem!_pos _ i (by simp; omega)]
      have := (List.pairwise_iff_getElem.1 hs) i (i + 1) (by omega) hi1 (by omega)
      simp only [decide_eq_false_iff_not, List.getElem_toArray]
      exact M.lt_asym this
    rw [hd] at this
    refine this.mono fun e w' ⟨he, q, hw⟩ => ⟨he, ?_⟩
    rw [hw]
    exact below_drewN' _ _ _

theorem setsFn_any (dl : List ByteArray) (s : ByteArray) (X : Nat) (a : Option Addr) (c : Nat) (W : World) (hd : StrsAt W (.slice a dl.length c) dl) (hc : W.cell? ⟨X, 0, none⟩ = some (.slice a dl.length c)) :
    Calls Try.prog 27 #[.string s, .pointer (some ⟨X, 0, none⟩)] W fun e w' => e = .returned (.bool (M.has dl s)) ∧ w' = W := by
  have HK : Hid (Calls Try.prog 17 #[.slice a dl.length c, .string s] W fun e w' => e = .returned (.bool (M.has dl s)) ∧ w' = W) := containsS_any dl s a c W hd
  generalize M.has dl s = R at *
  clear hd
  go_enter Try.func27, Try.ntmps27
  go_wp2_with (go_at_call 17; refine HK.out.mono ?_; rintro e w1 ⟨rfl, rfl⟩)
  go_ret
  exact ⟨rfl, rfl⟩

theorem containsF_any (l dl : List ByteArray) (a a2 : Option Addr) (c c2 X : Nat) (w : World) (h : StrsAt w (.slice a l.length c) l) (hd : StrsAt w (.slice a2 dl.length c2) dl) (hc : w.cell? ⟨X, 0, none⟩ = some (.slice a2 dl.length c2)) :
    Calls Try.prog 26 #[.slice a l.length c, .func (.func 27) #[] #[.pointer (some ⟨X, 0, none⟩)]] w fun e w' => e = .returned (.bool (l.any fun s => M.has dl s)) ∧ Below w.heap.size w w' := by
  have hn : l.length ≤ maxLen := by obtain ⟨_, _, _, h⟩ := h.1.form; exact h
  unfold maxLen at hn
  have hX : X < w.heap.size := World.block_lt_of_cell? _ _ hc
  by_cases h0 : l.length = 0
  · have : l = [] := List.length_eq_zero_iff.1 h0
    subst this
    exact (AnyE.slices_ContainsFunc_empty Try.conS a c _ w).mono fun e w' ⟨he, hw⟩ => ⟨he, by rw [hw]; exact Below.refl _ _⟩
  · obtain ⟨b, off, rfl, hcl⟩ := h.1.all (by omega)
    have eg : ∀ args w, (callFunc 27 args).run Try.prog w = .ok (.enter 27 args) w := enters_of Try.func27 (by kernel_rfl) rfl
    have := AnyE.slices_ContainsFunc Try.conS Value.string (fun s => M.has dl s) 27 #[.pointer (some ⟨X, 0, none⟩)] eg b off l.length c l w
      (fun W x hb => (setsFn_any dl x X a2 c2 W (hd.later hb) (cell_later hb hc)).mono fun e w' ⟨he, hw⟩ => ⟨he, 0, hw⟩) (Nat.le_refl _) (by omega) (fun j hj => by
      have := hcl j 0 hj (by decide)
      rw [Nat.mul_one, Nat.add_zero] at this
      rw [this, List.getD_eq_getElem?_getD, List.getElem?_eq_getElem hj, getElem!_pos l j hj]
      rfl)
    rw [List.take_length] at this
    refine this.mono fun e w' ⟨he, q, hw⟩ => ⟨he, ?_⟩
    rw [hw]
    exact below_drewN' _ _ _

theorem lackFn_any (dl : List ByteArray) (s : ByteArray) (X : Nat) (a : Option Addr) (c : Nat) (W : World) (hd : StrsAt W (.slice a dl.length c) dl) (hc : W.cell? ⟨X, 0, none⟩ = some (.slice a dl.length c)) :
    Calls Try.prog 61 #[.string s, .pointer (some ⟨X, 0, none⟩)] W fun e w' => e = .returned (.bool (M.has dl s)) ∧ w' = W := by
  have HK : Hid (Calls Try.prog 17 #[.slice a dl.length c, .string s] W fun e w' => e = .returned (.bool (M.has dl s)) ∧ w' = W) := containsS_any dl s a c W hd
  generalize M.has dl s = R at *
  clear hd
  go_enter Try.func61, Try.ntmps61
  go_wp2_with (go_at_call 17; refine HK.out.mono ?_; rintro e w1 ⟨rfl, rfl⟩)
  go_ret
  exact ⟨rfl, rfl⟩

theorem filter_txt (l : List ByteArray) (p : ByteArray → Bool) : ((l.map M.txt').filter fun t => p (M.ofTxt t)).map M.ofTxt = l.filter p := by
  induction l with
  | nil => rfl
  | cons s l ih =>
    simp only [List.map_cons, List.filter_cons, M.of_txt]
    cases p s
    · simpa using ih
    · simp [M.of_txt, ih]

set_option maxHeartbeats 1000000 in
set_option maxRecDepth 100000 in
theorem delete_own (l dl : List ByteArray) (B X : Nat) (v : Value) (a2 : Option Addr) (c2 : Nat) (w : World) (h : w.ownsRow B 9 1 v l.length (l.map Value.string)) (hl : l.length ≤ 100000)
    (hd : ∀ W, w.grownBy W v.ownBlock → StrsAt W (.slice a2 dl.length c2) dl ∧ W.cell? ⟨X, 0, none⟩ = some (.slice a2 dl.length c2)) :
    Calls Try.prog 60 #[v, .func (.func 61) #[] #[.pointer (some ⟨X, 0, none⟩)]] w fun e w' => w.grownBy w' v.ownBlock ∧ ∃ x c, e = .returned (.slice x (l.filter fun s => !(M.has dl s)).length c) ∧ w'.ownsRow B 9 1 (.slice x (l.filter fun s => !(M.has dl s)).length c) (l.filter fun s => !(M.has dl s)).length ((l.filter fun s => !(M.has dl s)).map Value.string) := by
  rcases h.2 with ⟨h1, h0⟩ | ⟨g, cap, cur, h1, hb, h2, h3, h4, h5, h6⟩
  · subst h1
    have hnil : l = [] := List.length_eq_zero_iff.1 h0
    subst hnil
    have KI : Hid (∀ W fv, Calls Try.prog 63 #[.slice none 0 0, fv] W fun e w' => e = .returned (.int .i64 (-1)) ∧ w' = W) := fun W fv => AnyE.slices_IndexFunc_empty Try.idxS none 0 fv W
    clear h h0 hd
    go_enter Try.func60, Try.ntmps60
    go_wp2_with (go_at_call 63; refine (KI.out _ _).mono ?_; rintro e w1 ⟨rfl, rfl⟩)
    go_ret
    exact ⟨grown_of_below (Below.refl _ _) _, none, 0, rfl, World.ownsRow_nil _ _ _ _⟩
  · subst h1
    have hH := holds_row h rfl
    have e1 : (l.map M.txt').toArray.size = l.length := by simp
    have eg : ∀ args w, (callFunc 61 args).run Try.prog w = .ok (.enter 61 args) w := enters_of Try.func61 (by kernel_rfl) rfl
    have hfn : ∀ W (x : List UInt8), w.grownBy W (some g) → FnGives Try.prog 61 #[.pointer (some ⟨X, 0, none⟩)] #[encStr x] (.bool (M.has dl (M.ofTxt x))) W := fun W x hW => by
      obtain ⟨h7, h8⟩ := hd W hW
      exact (lackFn_any dl (M.ofTxt x) X a2 c2 W h7 h8).mono fun e w' ⟨he, hw⟩ => ⟨he, 0, hw⟩
    have := AnyE.slices_DeleteFunc Try.delS encStr (fun _ => rfl) (fun t => M.has dl (M.ofTxt t)) 61 #[.pointer (some ⟨X, 0, none⟩)] eg [] (fun w => by kernel_rfl) g 0 cap (l.map M.txt').toArray w
      (fun W x hb => hfn W x (grown_of_below hb _)) (fun n os dk x hk => hfn _ x (grown_put w g n dk os)) hH (by rw [e1]; omega) (by rw [e1]; exact h3)
    rw [e1] at this
    simp only at this
    have e2 : ((l.map M.txt').filter fun x => !(M.has dl (M.ofTxt x))).map M.ofTxt = l.filter fun s => !(M.has dl s) := filter_txt l (fun s => !(M.has dl s))
    have hle : ((l.map M.txt').filter fun x => !(M.has dl (M.ofTxt x))).length ≤ l.length := by
      have := List.length_filter_le (fun x => !(M.has dl (M.ofTxt x))) (l.map M.txt')
      simpa using this
    refine this.mono fun e w' ⟨he, q, hw⟩ => ?_
    generalize ((l.map M.txt').filter fun x => !(M.has dl (M.ofTxt x))) = st at *
    have hlen : (st ++ List.replicate (l.length - st.length) ([] : List UInt8)).length = l.length := by simp; omega
    have hO2 := own_put (m := st.length) h q #[] _ hlen (by omega)
    have hG2 := grown_put w g q (st ++ List.replicate (l.length - st.length) []).toArray #[]
    rw [grow_empty] at hO2 hG2
    rw [List.take_left] at hO2
    refine ⟨by rw [hw]; exact hG2, some ⟨g, 0, none⟩, cap, by rw [he, ← e2, List.length_map], ?_⟩
    rw [hw, ← e2, List.length_map, List.map_map]
    exact hO2

end Go.Proofs.Ytebhbhbhcoijpaa
