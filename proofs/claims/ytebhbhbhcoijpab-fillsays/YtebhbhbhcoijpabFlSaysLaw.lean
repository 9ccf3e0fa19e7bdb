/-
  FillSays: the law.
-/
import Derived.Test.YtebhbhbhcoijpabFlRef2
import Derived.Test.YtebhbhbhcoijpabFlFact
import Derived.Test.YtebhbhbhcoijpabFlMath
import Derived.Deep.DeepCutAuto
namespace Go.Proofs.Ytebhbhbhcoijpab
open Go Go.RowKit
set_option linter.unusedVariables false

theorem M.whole_eq {k a b : Int} (hk : M.known k = true) (ha : 0 ≤ a ∧ a < 256) (hb : 0 ≤ b ∧ b < 256) (h1 : M.wide k = 1 → b = 0) :
    M.whole a b k = if M.hi k < a + 256 * b then a + 256 * b + 2 * M.lo k else a + 256 * b := by
  rcases M.kinds hk with rfl | rfl | rfl | rfl
  · obtain rfl : b = 0 := h1 rfl
    simp [M.whole, M.fits, M.lo, M.hi, M.within, M.wide]
    repeat' split
    all_goals omega
  · simp [M.whole, M.fits, M.lo, M.hi, M.within, M.wide]
    repeat' split
    all_goals omega
  · obtain rfl : b = 0 := h1 rfl
    simp [M.whole, M.fits, M.lo, M.hi, M.within, M.wide]
    repeat' split
    all_goals omega
  · simp [M.whole, M.fits, M.lo, M.hi, M.within, M.wide]
    repeat' split
    all_goals omega

/-- a row of bytes of one's own -/
theorem bytes_own {w : World} {B g cap L : Nat} {bs : List Int} (h : w.ownsRow B 5 1 (.slice (some ⟨g, 0, none⟩) L cap) L (bs.map (Value.int .u8))) (hb : ∀ b ∈ bs, 0 ≤ b ∧ b < 256) (hl : bs.length = L) : BytesAt w (.slice (some ⟨g, 0, none⟩) L cap) bs := by
  subst hl
  have h' : w.ownsRow B 5 1 (.slice (some ⟨g, 0, none⟩) bs.length cap) bs.length (bs.flatMap fun x => [Value.int .u8 x]) := by
    have e : ∀ l : List Int, (l.flatMap fun x => [Value.int .u8 x]) = l.map (Value.int .u8) := fun l => by
      induction l with
      | nil => rfl
      | cons x l ih => rw [List.flatMap_cons, ih]; rfl
    rw [e]; exact h
  refine ⟨(row_slice (k := 1) (0 : Int) (fun x => [Value.int .u8 x]) (fun _ => rfl) bs h').congr' (fun j i hj hi => ?_), hb⟩
  obtain rfl : i = 0 := by omega
  rfl

/-- the place, as the law asks for it -/
theorem M.place_cases (L : Nat) (pos k : Int) : (M.hi k < M.lo k ∧ M.place L pos k = 4) ∨ (¬ M.hi k < M.lo k ∧ 65536 < (L : Int) ∧ M.place L pos k = 2)
    ∨ (¬ M.hi k < M.lo k ∧ ¬ 65536 < (L : Int) ∧ (pos < 0 ∨ (L : Int) < pos ∨ (0 ≤ pos ∧ pos ≤ L ∧ (L : Int) < pos + M.wide k)) ∧ M.place L pos k = 5)
    ∨ (¬ M.hi k < M.lo k ∧ ¬ 65536 < (L : Int) ∧ 0 ≤ pos ∧ pos + M.wide k ≤ (L : Int) ∧ M.place L pos k = 0) := by
  have hlh := (lo_hi k).1
  have hw : 0 ≤ M.wide k := by unfold M.wide; repeat' split; all_goals omega
  unfold M.place
  rw [hlh]
  cases M.known k
  · left; exact ⟨rfl, rfl⟩
  · right
    by_cases h2 : 65536 < (L : Int)
    · left; exact ⟨by decide, h2, by rw [if_neg (by decide), if_pos h2]⟩
    · right
      rw [if_neg (by decide), if_neg h2]
      cases h3 : M.within pos 0 ((L : Int) - M.wide k)
      · left
        refine ⟨by decide, h2, ?_, by rw [if_pos rfl]⟩
        simp only [M.within, Bool.and_eq_false_iff, decide_eq_false_iff_not] at h3
        omega
      · right
        simp only [M.within, Bool.and_eq_true, decide_eq_true_eq] at h3
        exact ⟨by decide, h2, by omega, by omega, by rw [if_neg (by decide)]⟩

set_option maxHeartbeats 4000000 in
set_option maxRecDepth 100000 in
theorem fsays_law (k pos0 dst add : Int) (bs : List Int) (pos n : Int) (a : Option Addr) (c : Nat) (w : World) (h : BytesAt w (.slice a bs.length c) bs) (hk : (Lit.int .i64 k).wf = true) :
    Calls Try.prog 3 #[.int .i64 k, .int .i64 pos0, .int .i64 dst, .int .i64 add, .slice a bs.length c, .int .i64 pos, .int .i64 n] w fun e w' => e = .returned (.bool true) ∧ Below w.heap.size w w' := by
  have hl : bs.length ≤ maxLen := by obtain ⟨_, _, _, h⟩ := h.1.form; exact h
  obtain ⟨hl1, hl2, hh1, hh2⟩ := (lo_hi k).2
  have KPt := put_true
  have KR : Hid (∀ W, Calls Try.prog 4 #[.int .i64 k] W fun e w' => e = .returned (.tuple #[.int .i64 (M.lo k), .int .i64 (M.hi k)]) ∧ W = w') := fun W => (range_any k W).mono fun e w' ⟨h1, h2⟩ => ⟨h1, h2.symm⟩
  have KV : Hid (∀ W, Calls Try.prog 5 #[.int .i64 k, .int .i64 pos0, .int .i64 dst, .int .i64 add] W fun e w' => e = .returned (.tuple #[.int .i64 (M.value k pos0 dst add).1, .int .i64 (M.value k pos0 dst add).2]) ∧ W = w') := fun W => (value_any k pos0 dst add W).mono fun e w' ⟨h1, h2⟩ => ⟨h1, h2.symm⟩
  have KVo : Hid (∀ W, Calls Try.prog 9 #[.int .i64 k, .int .i64 pos0, .int .i64 dst, .int .i64 add] W fun e w' => e = .returned (.tuple #[.int .i64 (M.value k pos0 dst add).1, .int .i64 (M.value k pos0 dst add).2]) ∧ Below W.heap.size W w') := fun W => valueOf_any k pos0 dst add W hk
  have KB : Hid (∀ W, Calls Try.prog 8 #[.int .i64 k] W fun e w' => e = .returned (.tuple #[.int .i64 (M.lo k), .int .i64 (M.hi k)]) ∧ Below W.heap.size W w') := fun W => bounds_any k W hk
  have KW : Hid (∀ W, Calls Try.prog 11 #[.int .i64 k] W fun e w' => e = .returned (.int .i64 (M.wide k)) ∧ Below W.heap.size W w') := fun W => wideOf_anyF k W hk
  obtain ⟨d, er, hp⟩ : ∃ d er, M.putB bs pos k n = (d, er) := ⟨_, _, rfl⟩
  obtain ⟨m, er2, hg⟩ : ∃ m er, M.get bs pos k = (m, er) := ⟨_, _, rfl⟩
  have KP : Hid (∀ W, Below w.heap.size w W → Calls Try.prog 6 #[.slice a bs.length c, .int .i64 pos, .int .i64 k, .int .i64 n] W fun e w' => Below W.heap.size W w' ∧ ∃ a' c', e = .returned (.tuple #[.slice a' d.length c', .int .i64 er]) ∧ BytesAt w' (.slice a' d.length c') d) := fun W hW => by
    have := put_any bs a c pos k n W (h.later hW)
    rwa [hp] at this
  have KG : Hid (∀ W, Below w.heap.size w W → Calls Try.prog 7 #[.slice a bs.length c, .int .i64 pos, .int .i64 k] W fun e w' => e = .returned (.tuple #[.int .i64 m, .int .i64 er2]) ∧ Below W.heap.size W w') := fun W hW => by
    have := get_any bs a c pos k W (h.later hW)
    rwa [hg] at this
  have HH : Hid (∀ W, Below w.heap.size w W → BytesAt W (.slice a bs.length c) bs) := fun W hW => h.later hW
  have HRg : Hid (∀ i, 0 ≤ bs.getD i 0 ∧ bs.getD i 0 < 256) := byte_range h
  have HBr : Hid (∀ b ∈ bs, 0 ≤ b ∧ b < 256) := h.2
  have HPl := M.place_cases bs.length pos k
  have HPg : Hid ((M.place bs.length pos k ≠ 0 → d = [] ∧ er = M.place bs.length pos k ∧ m = 0 ∧ er2 = M.place bs.length pos k) ∧ (M.place bs.length pos k = 0 → (m, er2) = (M.whole (bs.getD pos.toNat 0) (M.second bs pos.toNat k) k, 0) ∧ (d, er) = if M.fits k n then (M.putN bs pos.toNat n (M.wide k).toNat, 0) else ([], 9))) := by
    refine ⟨fun h0 => ?_, fun h0 => ?_⟩
    · unfold M.putB at hp
      unfold M.get at hg
      rw [if_neg h0] at hp hg
      cases hp; cases hg
      exact ⟨rfl, rfl, rfl, rfl⟩
    · unfold M.putB at hp
      unfold M.get at hg
      rw [if_pos h0] at hp hg
      exact ⟨hg.symm, hp.symm⟩
  have HWe : Hid (M.place bs.length pos k = 0 → M.known k = true ∧ (M.wide k = 1 ∨ M.wide k = 2)) := fun h0 => by
    have hkn := (place_ok h0).1
    exact ⟨hkn, by rcases M.kinds hkn with rfl | rfl | rfl | rfl <;> simp [M.wide]⟩
  have HFt : Hid (∀ n, M.fits k n = (decide (M.lo k ≤ n) && decide (n ≤ M.hi k))) := fun n => rfl
  have HWh : Hid (∀ a b, M.known k = true → (0 ≤ a ∧ a < 256) → (0 ≤ b ∧ b < 256) → (M.wide k = 1 → b = 0) → M.whole a b k = if M.hi k < a + 256 * b then a + 256 * b + 2 * M.lo k else a + 256 * b) := fun a b h1 h2 h3 h4 => M.whole_eq h1 h2 h3 h4
  have HSe : Hid (∀ p, M.second bs p k = if M.wide k = 2 then bs.getD (p + 1) 0 else 0) := fun p => rfl
  have hwd : 0 ≤ M.wide k ∧ M.wide k ≤ 2 := by unfold M.wide; repeat' split; all_goals omega
  clear hp hg h hk
  generalize M.place bs.length pos k = pl at *
  generalize M.known k = kn at *
  generalize M.fits k = ft at *
  generalize M.lo k = lo at *
  generalize M.hi k = hi at *
  generalize M.wide k = wd at *
  generalize (M.value k pos0 dst add).1 = v1 at *
  generalize (M.value k pos0 dst add).2 = v2 at *
  unfold maxLen at hl
  go_enter Try.func3, Try.ntmps3
  go_upto_region 10 with (first | (go_at_call 4; refine (KR.out _).mono ?_; rintro e w' ⟨rfl, rfl⟩) | (go_at_call 5; refine (KV.out _).mono ?_; rintro e w' ⟨rfl, rfl⟩) | (go_at_call 6; refine (KP.out _ (Below.refl _ _)).mono ?_; rintro e w1 ⟨hb1, a1, c1, rfl, HA1⟩) | (go_at_call 7; refine (KG.out _ hb1).mono ?_; rintro e w2 ⟨rfl, hb2⟩) | (go_at_call 8; refine (KB.out _).mono ?_; rintro e w3 ⟨rfl, hb3⟩) | (go_at_call 9; refine (KVo.out _).mono ?_; rintro e w4 ⟨rfl, hb4⟩) | (go_at_call 10; refine (KPt _).mono ?_; rintro e w5 ⟨rfl, hb5⟩))
  have HB5 : Hid (Below w.heap.size w w5 ∧ BytesAt w5 (.slice a1 d.length c1) d) := by
    have h2 := hb1.trans (hb2.mono hb1.size)
    have h3 := h2.trans (hb3.mono h2.size)
    have h4 := h3.trans (hb4.mono h3.size)
    exact ⟨h4.trans (hb5.mono h4.size), (((HA1.later hb2).later hb3).later hb4).later hb5⟩
  clear hb1 hb2 hb3 hb4 hb5 HA1 KR KV KVo KP KG KB KPt
  rcases HPl with ⟨h1, rfl⟩ | ⟨h1, h2, rfl⟩ | ⟨h1, h2, h3, rfl⟩ | ⟨h1, h2, h3, h4, rfl⟩
  · obtain ⟨rfl, rfl, rfl, rfl⟩ := HPg.out.1 (by decide)
    clear HPg HWe HFt HWh HSe HH HRg HBr
    go_wp2_with fail
    go_ret
    exact ⟨rfl, HB5.out.1⟩
  · obtain ⟨rfl, rfl, rfl, rfl⟩ := HPg.out.1 (by decide)
    clear HPg HWe HFt HWh HSe HH HRg HBr
    go_wp2_with fail
    go_ret
    exact ⟨rfl, HB5.out.1⟩
  · obtain ⟨rfl, rfl, rfl, rfl⟩ := HPg.out.1 (by decide)
    clear HPg HWe HFt HWh HSe HH HRg HBr
    rcases h3 with h3 | h3 | ⟨h3, h4, h5⟩
    · go_wp2_with fail
      go_ret
      exact ⟨rfl, HB5.out.1⟩
    · have h0 : ¬ pos < 0 := by omega
      go_wp2_with fail
      go_ret
      exact ⟨rfl, HB5.out.1⟩
    · have h0 : ¬ pos < 0 := by omega
      have h0' : ¬ (bs.length : Int) < pos := by omega
      go_wp2_with (first | (go_at_call 11; refine (KW.out _).mono ?_; rintro e w6 ⟨rfl, hb6⟩))
      go_ret
      exact ⟨rfl, HB5.out.1.trans (hb6.mono HB5.out.1.size)⟩
  obtain ⟨hkn, hw12⟩ := HWe.out rfl
  obtain ⟨hmv, hdv⟩ := HPg.out.2 rfl
  obtain ⟨p, rfl⟩ : ∃ p : Nat, pos = p := ⟨pos.toNat, by omega⟩
  rw [show ((p : Int)).toNat = p from Int.toNat_natCast p] at hmv hdv
  have h0 : ¬ (p : Int) < 0 := by omega
  have h0' : ¬ (bs.length : Int) < (p : Int) := by omega
  have h0'' : ¬ (bs.length : Int) < (p : Int) + wd := by omega
  have hp1 : p < bs.length := by omega
  have hr1 := HRg.out p
  have hr2 : 0 ≤ M.second bs p k ∧ M.second bs p k < 256 := by
    rw [HSe.out p]; split
    · exact HRg.out _
    · decide
  have hwh := HWh.out _ _ hkn hr1 hr2 (fun h => by rw [HSe.out, if_neg (by omega)])
  have HMv : Hid (m = if hi < bs.getD p 0 + 256 * M.second bs p k then bs.getD p 0 + 256 * M.second bs p k + 2 * lo else bs.getD p 0 + 256 * M.second bs p k) := by
    show _ = _
    rw [← hwh]; exact congrArg Prod.fst hmv
  obtain rfl : er2 = 0 := congrArg Prod.snd hmv
  have HSe2 : Hid (M.second bs p k = if wd = 2 then bs.getD (p + 1) 0 else 0) := HSe.out p
  have HDv : Hid ((d, er) = if (decide (lo ≤ n) && decide (n ≤ hi)) then (M.putN bs p n wd.toNat, 0) else ([], 9)) := by rw [← HFt.out n]; exact hdv
  have hrp := HRg.out (p + 1)
  clear HPg HWe HFt HWh HSe hwh hmv hdv hkn h3
  generalize M.second bs p k = b2 at *
  go_upto_region 18 with (first | (go_at_call 11; refine (KW.out _).mono ?_; rintro e w6 ⟨rfl, hb6⟩))
  have HB6 : Hid (Below w.heap.size w w6 ∧ BytesAt w6 (.slice a1 d.length c1) d) := ⟨HB5.out.1.trans (hb6.mono HB5.out.1.size), HB5.out.2.later hb6⟩
  clear HB5 hb6
  have hB := HH.out _ HB6.out.1
  obtain ⟨b, off, rfl, hc0, hbb⟩ := hB.cell p hp1
  clear hB
  have hp0 := HRg.out p
  generalize bs.getD p 0 = x0 at *
  go_upto_if 146 with (first | (go_at_call 11; refine (KW.out _).mono ?_; rintro e w7 ⟨rfl, hb7⟩))
  have HB7 : Hid (Below w.heap.size w w7 ∧ BytesAt w7 (.slice a1 d.length c1) d) := ⟨HB6.out.1.trans (hb7.mono HB6.out.1.size), HB6.out.2.later hb7⟩
  clear HB6 hb7 hc0
  go_cut [28] (fun s28 wx => s28 = .int .i64 (x0 + 256 * b2) ∧ wx = w7)
  case first =>
    rcases hw12 with rfl | rfl
    · obtain rfl : b2 = 0 := HSe2.out
      go_wp2_with fail
      go_meet
      exact ⟨by go_num, rfl⟩
    · obtain rfl : b2 = bs.getD (p + 1) 0 := HSe2.out
      obtain ⟨b', off', e, hc1, hbb'⟩ := (HH.out _ HB7.out.1).cell (p + 1) (by omega)
      cases e
      generalize bs.getD (p + 1) 0 = x1 at *
      go_wp2_with fail
      go_meet
      exact ⟨by go_num, rfl⟩
  case rest =>
    obtain ⟨rfl, rfl⟩ := hcut
    generalize hs : x0 + 256 * b2 = s at *
    have hs2 : 0 ≤ s ∧ s ≤ 65535 := by omega
    clear hs
    go_upto_if 158 with fail
    go_cut [28] (fun s28 wx => s28 = .int .i64 m ∧ wx = wc)
    case first =>
      by_cases hgt : hi < s
      · obtain rfl : m = s + 2 * lo := by have := HMv.out; rwa [if_pos hgt] at this
        go_wp2_with fail
        go_meet
        exact ⟨by go_num, rfl⟩
      · obtain rfl : m = s := by have := HMv.out; rwa [if_neg hgt] at this
        go_wp2_with fail
        go_meet
        exact ⟨rfl, rfl⟩
    case rest =>
      obtain ⟨rfl, rfl⟩ := hcut
      clear HMv HSe2 hp0 hr1 hr2
      cases g1 : decide (lo ≤ n)
      · rw [g1] at HDv
        obtain ⟨rfl, rfl⟩ : d = [] ∧ er = 9 := ⟨congrArg Prod.fst HDv.out, congrArg Prod.snd HDv.out⟩
        have g1' : n < lo := by have := of_decide_eq_false g1; omega
        clear g1 HDv
        go_wp2_with fail
        go_ret
        exact ⟨rfl, HB7.out.1⟩
      cases g2 : decide (n ≤ hi)
      · rw [g1, g2] at HDv
        obtain ⟨rfl, rfl⟩ : d = [] ∧ er = 9 := ⟨congrArg Prod.fst HDv.out, congrArg Prod.snd HDv.out⟩
        have g1' : ¬ n < lo := by have := of_decide_eq_true g1; omega
        have g2' : hi < n := by have := of_decide_eq_false g2; omega
        clear g1 g2 HDv
        go_wp2_with fail
        go_ret
        exact ⟨rfl, HB7.out.1⟩
      rw [g1, g2] at HDv
      obtain ⟨hd, rfl⟩ : d = M.putN bs p n wd.toNat ∧ er = 0 := ⟨congrArg Prod.fst HDv.out, congrArg Prod.snd HDv.out⟩
      have HD : Hid (d = M.putN bs p n wd.toNat) := hd
      clear hd HDv
      have g1' : ¬ n < lo := by have := of_decide_eq_true g1; omega
      have g2' : ¬ hi < n := by have := of_decide_eq_true g2; omega
      have hn : -32768 ≤ n ∧ n ≤ 65535 := by omega
      clear g1 g2
      obtain ⟨W, rfl, hW1, hW2⟩ : ∃ W : Nat, wd = W ∧ 1 ≤ W ∧ W ≤ 2 := ⟨wd.toNat, by omega, by omega, by omega⟩
      rw [show ((W : Int)).toNat = W from Int.toNat_natCast W] at HD
      have KC : Hid (Calls Try.prog 12 #[.slice (some ⟨b, off, none⟩) bs.length c] wc fun e w' => Below wc.heap.size wc w' ∧ ∃ g cap, wc.heap.size ≤ g ∧ e = .returned (.slice (some ⟨g, 0, none⟩) bs.length cap) ∧ w'.ownsRow wc.heap.size 5 1 (.slice (some ⟨g, 0, none⟩) bs.length cap) bs.length (bs.map (Value.int .u8))) := clone_any bs _ c wc (HH.out _ HB7.out.1) (by omega) (by omega)
      go_wp2_with (first | (go_at_call 12; refine KC.out.mono ?_; rintro e w8 ⟨hb8, g, cap, hg, rfl, ho8⟩) | (go_at_call 11; refine (KW.out _).mono ?_; rintro e w9 ⟨rfl, hb9⟩))
      have HB9 : Hid (Below wc.heap.size wc w9) := hb8.trans (hb9.mono hb8.size)
      have HO9 : Hid (w9.ownsRow wc.heap.size 5 1 (.slice (some ⟨g, 0, none⟩) bs.length cap) bs.length ((M.putN bs p n 0).map (Value.int .u8))) := ho8.kept (grown_of_below hb9 none) (.inr (by simp [Value.ownBlock]))
      clear hb8 hb9 ho8 KC
      have HNp : Hid (∀ j, M.putN bs p n (j + 1) = (M.putN bs p n j).set (p + j) (M.byteAt n j)) := fun j => rfl
      have HLn : Hid (∀ j, (M.putN bs p n j).length = bs.length) := putN_len bs p n
      have HRn : Hid (∀ j, ∀ b ∈ M.putN bs p n j, 0 ≤ b ∧ b < 256) := putN_range HBr.out p n
      go_loopw [189] (fun s189 wr => ∃ (j : Nat), j ≤ W ∧ s189 = .int .i64 j ∧ Hid (wr.ownsRow wc.heap.size 5 1 (.slice (some ⟨g, 0, none⟩) bs.length cap) bs.length ((M.putN bs p n j).map (Value.int .u8))) ∧ Hid (Below wc.heap.size wc wr)) (fun s189 _ => W - (intOf s189).toNat)
      case atStart => exact ⟨0, Nat.zero_le _, rfl, HO9, HB9⟩
      case round =>
        obtain ⟨j, hj, rfl, H1, H2⟩ := hrel
        clear HO9 HB9
        by_cases hlt : j < W
        · have hjp : p + j < bs.length := by omega
          obtain ⟨cur, hcur, hsz⟩ : ∃ cur, wr.heap[g]? = some (.cells cur 5 (0, 0)) ∧ bs.length ≤ cur.size := by
            rcases H1.out.2 with ⟨h1, _⟩ | ⟨g', cap', cur, h1, _, h2, h3, _, h5, _⟩
            · cases h1
            · cases h1
              exact ⟨cur, h2, by omega⟩
          have hgl : g < wr.heap.size := (Array.getElem?_eq_some_iff.1 hcur).1
          obtain ⟨u, hu⟩ : ∃ u, wr.cell? ⟨g, p + j, none⟩ = some u := by
            rw [cellB hcur]
            exact ⟨_, Array.getElem?_eq_getElem (by omega)⟩
          have hfz := frozenB hcur (p + j)
          have HN1 : Hid (∀ o x, x = M.byteAt n j → ((wr.setCell ⟨g, p + j, none⟩ (.int .u8 x)).alloc o).ownsRow wc.heap.size 5 1 (.slice (some ⟨g, 0, none⟩) bs.length cap) bs.length ((M.putN bs p n (j + 1)).map (Value.int .u8))) := fun o x hx => by
            rw [HNp.out j, List.map_set, ← hx]
            exact (row_set H1.out (by rw [List.length_map, HLn.out]; exact hjp)).alloc o
          have HN2 : Hid (∀ o x, Below wc.heap.size wc ((wr.setCell ⟨g, p + j, none⟩ x).alloc o)) := fun o x => (H2.out.setCell hg _).alloc (H2.out.setCell hg _).size o
          clear H1 H2 hcur
          rcases (by omega : j = 0 ∨ j = 1) with rfl | rfl
          · simp only [Nat.add_zero] at hu hfz HN1 HN2
            go_wp2_with fail
            go_roundw
            case rel => exact ⟨1, by omega, by go_num, HN1.out _ _ (by show _ = n % 256; omega), HN2.out _ _⟩
            case measure => simp [intOf]; omega
          · go_wp2_with fail
            go_roundw
            case rel => exact ⟨2, by omega, by go_num, HN1.out _ _ (by show _ = n / 256 % 256; omega), HN2.out _ _⟩
            case measure => simp [intOf]; omega
        · obtain rfl : j = W := by omega
          have HLd : Hid (d.length = bs.length) := by rw [HD.out]; exact HLn.out _
          have HBd : Hid (BytesAt wr (.slice (some ⟨g, 0, none⟩) bs.length cap) d) := by
            rw [HD.out]
            have h1 := bytes_own H1.out (HRn.out _) (HLn.out _)
            exact h1
          have KE : Hid (Calls Try.prog 13 #[.slice a1 d.length c1, .slice (some ⟨g, 0, none⟩) bs.length cap] wr fun e w' => e = .returned (.bool true) ∧ wr = w') := by
            have h1 := HB7.out.2.later H2.out
            have h2 := HBd.out
            rw [← HLd.out] at h2
            have := bytesEqual_any d d a1 (some ⟨g, 0, none⟩) c1 cap wr h1 h2
            rw [allTwo_self, HLd.out] at this
            rw [HLd.out]
            exact this.mono fun e w' ⟨h1, h2⟩ => ⟨h1, h2.symm⟩
          have HBw : Hid (Below w.heap.size w wr) := HB7.out.1.trans (H2.out.mono HB7.out.1.size)
          clear HLd HBd HB7 H1 H2 HD HLn HRn HNp
          go_wp2_with (first | (go_at_call 13; refine KE.out.mono ?_; rintro e w' ⟨rfl, rfl⟩))
          go_ret
          exact ⟨rfl, HBw.out⟩

end Go.Proofs.Ytebhbhbhcoijpab
