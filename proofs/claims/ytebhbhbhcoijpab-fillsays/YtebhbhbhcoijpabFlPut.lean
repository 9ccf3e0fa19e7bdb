/-
  The contract of Put.
-/
import Derived.Test.YtebhbhbhcoijpabFlGet
import Derived.Test.YtebhbhbhcoijpabOwnRow
import Derived.Laws.CopyOwn
import Derived.Laws.OwnMore
import Derived.Lib.Hide
import Derived.Deep.Cut
namespace Go.Proofs.Ytebhbhbhcoijpab
open Go Go.RowKit
set_option linter.unusedVariables false

theorem putN_len (bs : List Int) (p : Nat) (n : Int) : ∀ j, (M.putN bs p n j).length = bs.length
  | 0 => rfl
  | j + 1 => by rw [M.putN, List.length_set]; exact putN_len bs p n j

theorem byteAt_range (n : Int) (j : Nat) : 0 ≤ M.byteAt n j ∧ M.byteAt n j < 256 := by
  unfold M.byteAt; split <;> omega

theorem putN_range {bs : List Int} (h : ∀ b ∈ bs, 0 ≤ b ∧ b < 256) (p : Nat) (n : Int) : ∀ j, ∀ b ∈ M.putN bs p n j, 0 ≤ b ∧ b < 256
  | 0, b, hb => h b hb
  | j + 1, b, hb => by
    rcases List.mem_or_eq_of_mem_set hb with h1 | rfl
    · exact putN_range h p n j b h1
    · exact byteAt_range n j

/-- a row of bytes, in a block of its own -/
theorem bytes_row {w : World} {B : Nat} {t : TypeId} {fr : Nat × Nat} {bs : List Int} (hb : ∀ b ∈ bs, 0 ≤ b ∧ b < 256) (hl : bs.length ≤ maxLen) (h : w.heap[B]? = some (.cells (bs.map (Value.int .u8)).toArray t fr)) (c : Nat) :
    BytesAt w (.slice (some ⟨B, 0, none⟩) bs.length c) bs := by
  refine ⟨⟨_, _, rfl, hl, .inr ⟨B, 0, rfl, fun j i hj hi => ?_⟩⟩, hb⟩
  have e : 0 + j * 1 + i = j := by omega
  rw [e, cellB h]
  simp [hj]

theorem heap_old (w : World) (o : Obj) {k : Nat} (h : k < w.heap.size) : (w.alloc o).heap[k]? = w.heap[k]? := by
  have hb := ((Below.refl w.heap.size w).alloc (Nat.le_refl _) o).block k h
  exact hb

theorem heap_new (w : World) (o : Obj) : (w.alloc o).heap[w.heap.size]? = some o := heap_alloc_new w o

theorem splice_all {α : Type} (Z X : List α) (h : Z.length = X.length) : splice Z 0 X = X := by
  simp [splice, h]

set_option maxHeartbeats 1000000 in
set_option maxRecDepth 100000 in
theorem put_any (bs : List Int) (a : Option Addr) (c : Nat) (pos k n : Int) (w : World) (h : BytesAt w (.slice a bs.length c) bs) :
    Calls Try.prog 6 #[.slice a bs.length c, .int .i64 pos, .int .i64 k, .int .i64 n] w fun e w' => Below w.heap.size w w' ∧ ∃ a' c', e = .returned (.tuple #[.slice a' (M.putB bs pos k n).1.length c', .int .i64 (M.putB bs pos k n).2]) ∧ BytesAt w' (.slice a' (M.putB bs pos k n).1.length c') (M.putB bs pos k n).1 := by
  have hl : bs.length ≤ maxLen := by obtain ⟨_, _, _, h⟩ := h.1.form; exact h
  have KC : Hid (∀ W, Calls Try.prog 19 #[.slice a bs.length c, .int .i64 pos, .int .i64 k] W fun e w' => e = .returned (.int .i64 (M.place bs.length pos k)) ∧ W = w') := fun W => (checkPlace_any a bs.length c pos k W hl).mono fun e w' ⟨h1, h2⟩ => ⟨h1, h2.symm⟩
  have KF : Hid (∀ W, Calls Try.prog 18 #[.int .i64 k, .int .i64 n] W fun e w' => e = .returned (.bool (M.fits k n)) ∧ W = w') := fun W => (fits_any k n W).mono fun e w' ⟨h1, h2⟩ => ⟨h1, h2.symm⟩
  have KW : Hid (∀ W, Calls Try.prog 21 #[.int .i64 k] W fun e w' => e = .returned (.int .i64 (M.wide k)) ∧ W = w') := fun W => (wide_any k W).mono fun e w' ⟨h1, h2⟩ => ⟨h1, h2.symm⟩
  have HV : Hid (M.putB bs pos k n = if M.place bs.length pos k = 0 then (if M.fits k n then (M.putN bs pos.toNat n (M.wide k).toNat, 0) else ([], 9)) else ([], M.place bs.length pos k)) := rfl
  have HP : Hid (M.place bs.length pos k = 0 → M.known k = true ∧ (bs.length : Int) ≤ 65536 ∧ 0 ≤ pos ∧ pos + M.wide k ≤ bs.length) := place_ok
  generalize M.putB bs pos k n = V at *
  generalize M.place bs.length pos k = er at *
  generalize M.fits k n = ft at *
  cases he : (er == 0)
  · obtain rfl : V = ([], er) := by have := HV.out; rwa [if_neg (by simpa using he)] at this
    have he' : (er != 0) = true := by simpa using he
    unfold maxLen at hl
    clear HV HP
    go_enter Try.func6, Try.ntmps6
    go_wp2_with (go_at_call 19; refine (KC.out _).mono ?_; rintro e w' ⟨rfl, rfl⟩)
    go_ret2
    exact ⟨Below.refl _ _, none, 0, rfl, ⟨none, 0, rfl, Nat.zero_le _, .inl rfl⟩, fun b hb => by cases hb⟩
  obtain rfl : er = 0 := by simpa using he
  clear he
  cases ft
  · obtain rfl : V = ([], 9) := HV.out
    unfold maxLen at hl
    clear HV HP
    go_enter Try.func6, Try.ntmps6
    go_wp2_with (first | (go_at_call 19; refine (KC.out _).mono ?_; rintro e w' ⟨rfl, rfl⟩) | (go_at_call 18; refine (KF.out _).mono ?_; rintro e w' ⟨rfl, rfl⟩))
    go_ret2
    exact ⟨Below.refl _ _, none, 0, rfl, ⟨none, 0, rfl, Nat.zero_le _, .inl rfl⟩, fun b hb => by cases hb⟩
  obtain ⟨hk, hlen, hp0, hpw⟩ := HP.out rfl
  obtain ⟨p, rfl⟩ : ∃ p : Nat, pos = p := ⟨pos.toNat, by omega⟩
  clear HP hp0
  obtain rfl : V = (M.putN bs p n (M.wide k).toNat, 0) := HV.out
  clear HV
  have hwd : M.wide k = 1 ∨ M.wide k = 2 := by rcases M.kinds hk with rfl | rfl | rfl | rfl <;> simp [M.wide]
  obtain ⟨wd, hwe, hw1, hw2⟩ : ∃ wd : Nat, M.wide k = wd ∧ 1 ≤ wd ∧ wd ≤ 2 := ⟨(M.wide k).toNat, by omega, by omega, by omega⟩
  rw [hwe] at KW hpw ⊢
  rw [show ((wd : Int)).toNat = wd from Int.toNat_natCast wd]
  clear hwd hwe hk
  have HL : Hid (∀ j, (M.putN bs p n j).length = bs.length) := putN_len bs p n
  have HR : Hid (∀ j, ∀ b ∈ M.putN bs p n j, 0 ≤ b ∧ b < 256) := putN_range h.2 p n
  have HN : Hid (∀ j, M.putN bs p n (j + 1) = (M.putN bs p n j).set (p + j) (M.byteAt n j)) := fun j => rfl
  have H0 : Hid (M.putN bs p n 0 = bs) := rfl
  obtain ⟨i1, hi1, hy0, hy1, hy2⟩ := info_parts (P := Try.prog) (e := 5) (z := .int .u8 0) (size := 1) (bytes := 1) (by kernel_rfl)
  obtain ⟨w1, hmk, hrow, hgr⟩ := run_make_full w w.heap.size 22 5 i1 (.int .u8 0) 1 Try.underlying22 hi1 hy0 hy1 .i64 .i64 bs.length (by rw [hy2]; omega) hl (Nat.le_refl _)
  have HB1 : Hid (Below w.heap.size w w1) := (Below.refl _ _).grown hgr (Nat.le_refl _) (fun k hk => by cases hk)
  obtain ⟨cur, hcur, hcl⟩ : ∃ cur : List Value, w1.heap[w.heap.size]? = some (.cells cur.toArray 5 (0, 0)) ∧ cur.length = bs.length := by
    rcases hrow.2 with ⟨h1, _⟩ | ⟨g, cap, cur, h1, _, h2, _, _, h5, _⟩
    · cases h1
    · cases h1
      exact ⟨cur.toList, by simpa using h2, by simpa using h5⟩
  have KS : Hid (∀ W, Calls Try.prog 20 #[.int .i64 n] W fun e w' => e = .returned (.agg #[.int .u8 (M.byteAt n 0), .int .u8 (M.byteAt n 1)]) ∧ Below W.heap.size W w') := fun W => split_any n W
  obtain ⟨b, off, rfl, _, _⟩ := h.cell p (by omega)
  obtain ⟨X, HX⟩ : ∃ X : List Value, Hid (X = bs.map (Value.int .u8)) := ⟨_, rfl⟩
  have hXl : X.length = bs.length := by rw [HX.out]; simp
  have HSrc : Hid (∀ j v, X[j]? = some v → w1.cell? ((⟨b, off, none⟩ : Addr).add j) = some v) := fun j v hv => by
    have hj : j < bs.length := by rw [← hXl]; exact (List.getElem?_eq_some_iff.1 hv).1
    obtain ⟨b', off', e, hc, _⟩ := (h.later HB1.out).cell j hj
    cases e
    rw [HX.out, List.getElem?_map, getElem?_getD bs 0 j hj] at hv
    cases hv
    have e : (⟨b, off, none⟩ : Addr).add j = ⟨b, off + j, none⟩ := by cases j <;> simp [Addr.add]
    rw [e]
    exact hc
  have HOne : Hid (∀ v ∈ X, v.oneCell' = true) := by
    rw [HX.out]
    intro v hv
    obtain ⟨x, _, rfl⟩ := List.mem_map.1 hv
    rfl
  obtain ⟨w2, hcp, HG2, HB2⟩ : ∃ w2, (Builtin.copy_ #[22, 22] 3 #[.slice (some ⟨w.heap.size, 0, none⟩) bs.length bs.length, .slice (some ⟨b, off, none⟩) bs.length c]).run Try.prog w1 = .ok (goInt X.length) w2 ∧ Hid (w2.heap[w.heap.size]? = some (.cells X.toArray 5 (0, 0))) ∧ Hid (Below w.heap.size w w2) := by
    refine ⟨_, run_copy_row Try.prog w1 22 22 3 5 w.heap.size 0 bs.length bs.length ⟨b, off, none⟩ bs.length c cur.toArray 5 X Try.underlying22 (by kernel_rfl) hcur (by rw [hXl]; exact (Nat.min_self _).symm) HSrc.out (by simp; omega) HOne.out, ?_, below_setRow HB1.out (Nat.le_refl _) _⟩
    have e : cur.toArray.toList.take 0 ++ X ++ cur.toArray.toList.drop (0 + X.length) = X := by simp; omega
    rw [e]
    exact setRow_heap w1 _ _ _ _ _ hcur
  clear hrow hgr h HSrc HOne hcur HB1
  unfold maxLen at hl
  generalize hgw : w.heap.size = g at *
  go_enter Try.func6, Try.ntmps6
  go_wp2_with (first | (go_at_call 19; refine (KC.out _).mono ?_; rintro e w' ⟨rfl, rfl⟩) | (go_at_call 18; refine (KF.out _).mono ?_; rintro e w' ⟨rfl, rfl⟩) | (go_at_call 20; refine (KS.out _).mono ?_; rintro e w3 ⟨rfl, hB3⟩) | (go_at_call 21; refine (KW.out _).mono ?_; rintro e w' ⟨rfl, rfl⟩))
  have HI : Hid (∀ W, W = w3.alloc (.cells #[.int .u8 (M.byteAt n 0), .int .u8 (M.byteAt n 1)] 42) → W.heap[g]? = some (.cells ((M.putN bs p n 0).map (Value.int .u8)).toArray 5 (0, 0)) ∧ W.heap[w3.heap.size]? = some (.cells #[.int .u8 (M.byteAt n 0), .int .u8 (M.byteAt n 1)] 42 (0, 0)) ∧ Below g w W ∧ g < w3.heap.size) := by
    rintro W rfl
    have hG := HG2.out
    have hlt2 : g < w2.heap.size := (Array.getElem?_eq_some_iff.1 hG).1
    have hlt3 : g < w3.heap.size := Nat.lt_of_lt_of_le hlt2 hB3.size
    have hB3' : Below g w w3 := HB2.out.trans (hB3.mono (Nat.le_of_lt hlt2))
    refine ⟨?_, ?_, hB3'.alloc (Nat.le_of_lt hlt3) _, hlt3⟩
    · rw [heap_old _ _ hlt3, hB3.block g hlt2, hG, HX.out]; rfl
    · exact heap_new _ _
  clear HG2 HB2 hB3 hcp hmk HX hXl hcl
  obtain ⟨I1, I2, I3, I4⟩ := HI.out _ rfl
  have HI1 : Hid _ := I1
  have HI2 : Hid _ := I2
  have HI3 : Hid _ := I3
  clear HI I1 I2 I3
  generalize w3.alloc (.cells #[.int .u8 (M.byteAt n 0), .int .u8 (M.byteAt n 1)] 42) = W0 at *
  generalize w3.heap.size = g2 at *
  go_loopw [35] (fun s35 wr => ∃ (j : Nat), j ≤ wd ∧ s35 = .int .i64 j ∧ Hid (wr.heap[g]? = some (.cells ((M.putN bs p n j).map (Value.int .u8)).toArray 5 (0, 0))) ∧ Hid (wr.heap[g2]? = some (.cells #[.int .u8 (M.byteAt n 0), .int .u8 (M.byteAt n 1)] 42 (0, 0))) ∧ Hid (Below g w wr)) (fun s35 _ => wd - (intOf s35).toNat)
  case atStart => exact ⟨0, Nat.zero_le _, rfl, HI1, HI2, HI3⟩
  case round =>
    obtain ⟨j, hj, rfl, H1, H2, H3⟩ := hrel
    clear HI1 HI2 HI3
    by_cases hlt : j < wd
    · have hcl : ((M.putN bs p n j).map (Value.int .u8)).length = bs.length := by rw [List.length_map]; exact HL.out j
      have hjp : p + j < bs.length := by omega
      obtain ⟨u, hu⟩ : ∃ u, wr.cell? ⟨g, p + j, none⟩ = some u := by
        rw [cellB H1.out]
        rw [List.getElem?_toArray]
        exact ⟨_, List.getElem?_eq_getElem (by rw [hcl]; exact hjp)⟩
      have hfz := frozenB H1.out (p + j)
      have hc0 := cellB H2.out 0
      have hc1 := cellB H2.out 1
      have HB' : Hid (∀ v, Below g w (wr.setCell ⟨g, p + j, none⟩ v)) := fun v => H3.out.setCell (Nat.le_refl _) _
      have HN1 : Hid ((wr.setCell ⟨g, p + j, none⟩ (.int .u8 (M.byteAt n j))).heap[g]? = some (.cells ((M.putN bs p n (j + 1)).map (Value.int .u8)).toArray 5 (0, 0))) := by
        rw [Hid, setB' H1.out, HN.out j, List.map_set]
        simp
      have HN2 : Hid (∀ v, (wr.setCell ⟨g, p + j, none⟩ v).heap[g2]? = some (.cells #[.int .u8 (M.byteAt n 0), .int .u8 (M.byteAt n 1)] 42 (0, 0))) := fun v => by
        rw [Below.heap_setCell _ _ _ _ (by intro e; simp at e; omega)]
        exact H2.out
      clear hcl H1 H2 H3 HL HR HN H0
      rcases (by omega : j = 0 ∨ j = 1) with rfl | rfl
      · simp only [Nat.add_zero] at hu hfz HB' HN1 HN2
        go_wp2_with fail
        go_roundw
        case rel => exact ⟨1, by omega, by go_num, HN1, HN2.out _, HB'.out _⟩
        case measure => simp [intOf]; omega
      · go_wp2_with fail
        go_roundw
        case rel => exact ⟨2, by omega, by go_num, HN1, HN2.out _, HB'.out _⟩
        case measure => simp [intOf]; omega
    · obtain rfl : j = wd := by omega
      have hL := HL.out j
      have HE : Hid (BytesAt wr (.slice (some ⟨g, 0, none⟩) (M.putN bs p n j).length bs.length) (M.putN bs p n j)) := bytes_row (HR.out j) (by rw [hL]; unfold maxLen; omega) H1.out _
      rw [hL] at HE
      go_wp2_with fail
      go_ret2
      exact ⟨H3.out, _, _, by rw [hL]; rfl, by rw [hL]; exact HE.out⟩

end Go.Proofs.Ytebhbhbhcoijpab
