/-
  FillBack: the law.
-/
import Derived.Test.YtpnfofbhbgejjaaFlFact
import Derived.Test.YtpnfofbhbgejjaaFlMath
namespace Go.Proofs.Ytpnfofbhbgejjaa
open Go.RowKit
set_option linter.unusedVariables false
attribute [local go_sem] lat_cell

set_option maxHeartbeats 2000000 in
set_option maxRecDepth 100000 in
theorem fback_law (bs : List Int) (pos k n : Int) (a : Option Addr) (c : Nat) (w : World) (h : BytesAt w (.slice a bs.length c) bs) :
    Calls Try.prog 4 #[.slice a bs.length c, .int .i64 pos, .int .i64 k, .int .i64 n] w fun e w' => e = .returned (.bool true) ∧ Below w.heap.size w w' := by
  have hl : bs.length ≤ maxLen := by obtain ⟨_, _, _, h⟩ := h.1.form; exact h
  have KP := put_true
  obtain ⟨d, er, hv⟩ : ∃ d er, M.put bs pos k n = (d, er) := ⟨_, _, rfl⟩
  have K1 : Hid (∀ W, Below w.heap.size w W → Calls Try.prog 8 #[.slice a bs.length c, .int .i64 pos, .int .i64 k, .int .i64 n] W fun e w' => Below W.heap.size W w' ∧ ∃ a' c', e = .returned (.tuple #[.slice a' d.length c', .int .i64 er]) ∧ BytesAt w' (.slice a' d.length c') d) := fun W hW => by
    have := put_any bs a c pos k n W (h.later hW)
    rwa [hv] at this
  cases he : (er == 0)
  · have he' : (er != 0) = true := by simpa using he
    clear hv
    unfold maxLen at hl
    go_enter Try.func4, Try.ntmps4
    go_wp2_with (first | (go_at_call 8; refine (K1.out _ (Below.refl _ _)).mono ?_; rintro e w1 ⟨hb1, a1, c1, rfl, HA1⟩) | (go_at_call 12; refine (KP _).mono ?_; rintro e w2 ⟨rfl, hb2⟩; refine Hid.out ?_))
    refine Lib.hid ?_
    go_wp2_with (first | (go_at_call 12; refine (KP _).mono ?_; rintro e w3 ⟨rfl, hb3⟩))
    go_ret
    have h2 := hb1.trans (hb2.mono hb1.size)
    exact ⟨rfl, h2.trans (hb3.mono h2.size)⟩
  obtain rfl : er = 0 := by simpa using he
  clear he
  obtain ⟨hp, hf, hd⟩ := M.put_ok hv
  obtain ⟨hlen, hg, ho, x, hgx, hpx⟩ := M.put_back h.2 hv
  obtain ⟨hk, hL, hp0, hpw⟩ := place_ok hp
  clear hp hf hd
  have hw12 : M.wide k = 1 ∨ M.wide k = 2 := by rcases M.kinds hk with rfl | rfl | rfl | rfl <;> simp [M.wide]
  have K2 : Hid (∀ W a' c', BytesAt W (.slice a' bs.length c') d → Calls Try.prog 9 #[.slice a' bs.length c', .int .i64 pos, .int .i64 k] W fun e w' => e = .returned (.tuple #[.int .i64 n, .int .i64 0]) ∧ Below W.heap.size W w') := fun W a' c' hA => by
    rw [← hlen] at hA ⊢
    have := get_any d a' c' pos k W hA
    rwa [hg] at this
  have K3 : Hid (∀ W, Below w.heap.size w W → Calls Try.prog 9 #[.slice a bs.length c, .int .i64 pos, .int .i64 k] W fun e w' => e = .returned (.tuple #[.int .i64 x, .int .i64 0]) ∧ Below W.heap.size W w') := fun W hW => by
    have := get_any bs a c pos k W (h.later hW)
    rwa [hgx] at this
  have K4 : Hid (∀ W a' c', BytesAt W (.slice a' bs.length c') d → Calls Try.prog 8 #[.slice a' bs.length c', .int .i64 pos, .int .i64 k, .int .i64 x] W fun e w' => Below W.heap.size W w' ∧ ∃ a' c', e = .returned (.tuple #[.slice a' bs.length c', .int .i64 0]) ∧ BytesAt w' (.slice a' bs.length c') bs) := fun W a' c' hA => by
    rw [← hlen] at hA
    have := put_any d a' c' pos k x W hA
    rw [hpx, hlen] at this
    exact this
  have K5 : Hid (∀ W a' c', BytesAt W (.slice a' bs.length c') bs → BytesAt W (.slice a bs.length c) bs → Calls Try.prog 15 #[.slice a' bs.length c', .slice a bs.length c] W fun e w' => e = .returned (.bool true) ∧ W = w') := fun W a' c' hA hB => by
    have := bytesEqual_any bs bs a' a c' c W hA hB
    rw [allTwo_self] at this
    exact this.mono fun e w' ⟨h1, h2⟩ => ⟨h1, h2.symm⟩
  have KW : Hid (∀ W, Calls Try.prog 16 #[.int .i64 k] W fun e w' => e = .returned (.int .i64 (M.wide k)) ∧ w' = W) := fun W => wide_any k W
  have HLE : Hid (d.length = bs.length) := hlen
  have HO : Hid (∀ i : Nat, i < bs.length → ((i : Int) < pos ∨ pos + M.wide k ≤ (i : Int)) → bs.getD i 0 = d.getD i 0) := ho
  have HH : Hid (∀ W, Below w.heap.size w W → BytesAt W (.slice a bs.length c) bs) := fun W hW => h.later hW
  rw [hlen] at K1
  generalize M.wide k = wd at *
  clear hv hg ho hgx hpx hk h hlen
  unfold maxLen at hl
  go_enter Try.func4, Try.ntmps4
  go_wp2_with (first | (go_at_call 8; refine (K1.out _ (Below.refl _ _)).mono ?_; rintro e w1 ⟨hb1, a1, c1, rfl, HA1⟩) | (go_at_call 12; refine (KP _).mono ?_; rintro e w2 ⟨rfl, hb2⟩) | (go_at_call 9; refine (K2.out _ _ _ (HA1.later hb2)).mono ?_; rintro e w3 ⟨rfl, hb3⟩))
  have HB3 : Hid (Below w.heap.size w w3 ∧ BytesAt w3 (.slice a1 bs.length c1) d) := by
    have h2 := hb1.trans (hb2.mono hb1.size)
    exact ⟨h2.trans (hb3.mono h2.size), (HA1.later hb2).later hb3⟩
  clear hb1 hb2 hb3 HA1 K1 K2
  go_loopw [54] (fun s54 wr => ∃ (j : Nat), j ≤ bs.length ∧ s54 = .int .i64 j ∧ Hid (Below w.heap.size w wr ∧ BytesAt wr (.slice a1 bs.length c1) d)) (fun s54 _ => bs.length - (intOf s54).toNat)
  case atStart => exact ⟨0, Nat.zero_le _, rfl, HB3⟩
  case round =>
    obtain ⟨j, hj, rfl, HB⟩ := hrel
    clear HB3
    by_cases hlt : j < bs.length
    · have hB1 := HH.out _ HB.out.1
      obtain ⟨b, off, rfl, hc, hbb⟩ := hB1.cell j hlt
      have hB2 := HB.out.2
      have hB2' : BytesAt wr (.slice a1 d.length c1) d := by rw [HLE.out]; exact hB2
      obtain ⟨b', off', rfl, hc', hbb'⟩ := hB2'.cell j (by rw [HLE.out]; exact hlt)
      have HJ := HO.out j hlt
      clear hB1 hB2 hB2'
      have HJ' : Hid _ := HJ
      clear HJ
      have HNx : Hid (∀ W, Below wr.heap.size wr W → Below w.heap.size w W ∧ BytesAt W (.slice (some ⟨b', off', none⟩) bs.length c1) d) := fun W hW => ⟨HB.out.1.trans (hW.mono HB.out.1.size), HB.out.2.later hW⟩
      clear HB
      generalize bs.getD j 0 = x0 at *
      generalize d.getD j 0 = x1 at *
      cases h1 : decide ((j : Int) < pos)
      · cases h2 : decide (pos + wd ≤ (j : Int))
        · clear HJ'
          go_wp2_with fail
          refine wp_region_lat (by kernel_rfl) (by kernel_rfl) ?_
          intro hne
          repeat (go_big_quiet_step ((first | (go_at_call 16; exact lat_of_same (KW.out _)))))
          refine wpQuiet_nil ?_
          intro w4 hb4
          have hb := lat_out hb4
          clear hne hb4
          go_wp2_with fail
          go_roundw
          case rel => exact ⟨j + 1, by omega, by go_num, HNx.out _ hb⟩
          case measure => simp [intOf]; omega
        · obtain rfl : x0 = x1 := HJ'.out (.inr (of_decide_eq_true h2))
          clear HJ'
          go_wp2_with fail
          refine wp_region_lat (by kernel_rfl) (by kernel_rfl) ?_
          intro hne
          repeat (go_big_quiet_step ((first | (go_at_call 16; exact lat_of_same (KW.out _)))))
          refine wpQuiet_nil ?_
          intro w4 hb4
          have hb := lat_out hb4
          clear hne hb4
          go_wp2_with fail
          go_roundw
          case rel => exact ⟨j + 1, by omega, by go_num, HNx.out _ hb⟩
          case measure => simp [intOf]; omega
      · obtain rfl : x0 = x1 := HJ'.out (.inl (of_decide_eq_true h1))
        clear HJ'
        go_wp2_with fail
        refine wp_region_lat (by kernel_rfl) (by kernel_rfl) ?_
        intro hne
        repeat (go_big_quiet_step ((first | (go_at_call 16; exact lat_of_same (KW.out _)))))
        refine wpQuiet_nil ?_
        intro w4 hb4
        have hb := lat_out hb4
        clear hne hb4
        go_wp2_with fail
        go_roundw
        case rel => exact ⟨j + 1, by omega, by go_num, HNx.out _ hb⟩
        case measure => simp [intOf]; omega
    · obtain rfl : j = bs.length := by omega
      have hbw := HB.out.1
      go_wp2_with (first | (go_at_call 9; refine (K3.out _ HB.out.1).mono ?_; rintro e w4 ⟨rfl, hb4⟩) | (go_at_call 8; refine (K4.out _ _ _ (HB.out.2.later hb4)).mono ?_; rintro e w5 ⟨hb5, a5, c5, rfl, HA5⟩; have h5 := (HB.out.1.trans (hb4.mono HB.out.1.size)).trans (hb5.mono (HB.out.1.trans (hb4.mono HB.out.1.size)).size)) | (go_at_call 15; refine (K5.out _ _ _ HA5 (HH.out _ h5)).mono ?_; rintro e w6 ⟨rfl, rfl⟩))
      go_ret
      exact ⟨rfl, h5⟩

end Go.Proofs.Ytpnfofbhbgejjaa
