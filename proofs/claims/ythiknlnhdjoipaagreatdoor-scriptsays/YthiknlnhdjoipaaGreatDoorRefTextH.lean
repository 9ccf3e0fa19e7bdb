/-
  The reference's PartText: the bytes of a fragment, two digits each.
-/
import Derived.Test.YthiknlnhdjoipaaGreatDoorScW
import Derived.Test.YthiknlnhdjoipaaGreatDoorMemB
import Derived.Deep.DeepCutAuto
namespace Go.Proofs.YthiknlnhdjoipaaGreatDoor
open Go Go.RowKit
set_option linter.unusedVariables false
attribute [local go_sem] lat_cell

def loopsOfT : Code → List Code
  | .loop c => c :: loopsOfT c
  | .seq a b => loopsOfT a ++ loopsOfT b
  | .block _ c => loopsOfT c
  | .scope c => loopsOfT c
  | .cond _ a b => loopsOfT a ++ loopsOfT b
  | _ => []

theorem enc_small (d : UInt8) (h : d.toNat < 128) : Utf8.encode (d.toNat : Int) = ⟨#[d]⟩ := by
  have hv : Utf8.valid (d.toNat : Int) = true := by unfold Utf8.valid; simp; omega
  unfold Utf8.encode
  rw [hv]
  simp [h]
theorem digit_small (n : Nat) : (M.digit n).toNat < 128 := by
  unfold M.digit
  by_cases h : n < 16
  · match n, h with
    | 0, _ | 1, _ | 2, _ | 3, _ | 4, _ | 5, _ | 6, _ | 7, _ | 8, _ | 9, _ | 10, _ | 11, _ | 12, _ | 13, _ | 14, _ | 15, _ => decide
    | n + 16, h => omega
  · rw [List.getD_eq_getElem?_getD, List.getElem?_eq_none (by show M.digits.length ≤ n; simp [M.digits]; omega)]
    decide
theorem run_convert_digit {P : Program} (w : World) (src dst : TypeId) (k : IntKind) (n : Nat) (hs : (P.underlying src).isSome = true) (hd : P.underlying dst = some .string) :
    (convert src dst (.int k (M.digit n).toNat)).run P w = .ok (.string ⟨#[M.digit n]⟩) w := by
  rw [run_convert_int_string w src dst k _ hs hd, enc_small _ (digit_small n)]
attribute [local go_sem high] run_index_digits run_convert_digit

set_option maxHeartbeats 8000000 in
set_option maxRecDepth 1000000 in
theorem rt_hex {zc0 zc1 zc2 zc3 zc4 zc5 zc6 zc7 zc8 zc10 zc11 zc12 zc13 zc14 zc15 zc16 zc17 zc18 zc19 zc20 zc21 zc22 zc23 zc24 zc25 zc26 zc27 zc31 zc32 zc33 zc34 zc35 zc36 zc37 zc38 zc39 zc40 zc41 zc42 zc43 zc44 zc45 zc46 zc47 zc48 zc49 zc50 zc51 zc52 zc53 zc54 zc55 zc56 zc57 zc58 zc59 zc60 zc61 zc62 zc63 zc64 zc65 zc66 zc67 zc68 zc69 zc70 zc71 zc72 zc73 zc74 zc75 zc76 zc77 zc78 zc79 zc80 zc81 zc82 zc83 zc84 zc85 zc86 zc87 zc88 zc89 zc90 zc91 zc92 zc93 zc94 zc95 zc96 zc97 zc98 zc99 zc100 zc101 zc102 zc103 zc104 zc105 zc106 zc107 zc108 zc109 zc110 zc111 zc112 zc113 zc114 zc115 zc116 zc117 zc118 zc119 zc120 zc121 zc122 zc123 zc124 zc125 zc126 zc127 zc128 zc129 zc130 zc131 zc132 zc133 zc134 zc135 zc136 zc137 zc138 zc139 zc140 zc141 zc142 zc143 : Value} (W0 : World) (bs : List Int) (ab : Option Addr) (cb : Nat) (hb : BytesAt W0 (.slice ab bs.length cb) bs) (h64 : bs.length ≤ 64) {Q0 : Exit → Act → World → Prop}
    (hexit : ∀ (zv9 zv11 zv30 zv31 zv32 zv33 zv34 zv35 zv36 zv37 zv38 zv39 zv40 zv41 zv42 zv43 zv44 zv45 : Value) (w'' : World), zv9 = .string (M.str (M.hex bs)) ∧ Below W0.heap.size W0 w'' → Q0 (.exit 2) ⟨List.toArray (zc0 :: zc1 :: zc2 :: zc3 :: zc4 :: zc5 :: zc6 :: zc7 :: zc8 :: zv9 :: zc10 :: zv11 :: zc12 :: zc13 :: zc14 :: zc15 :: zc16 :: zc17 :: zc18 :: zc19 :: zc20 :: zc21 :: zc22 :: zc23 :: zc24 :: zc25 :: zc26 :: zc27 :: .slice ab bs.length cb :: .int .i64 bs.length :: zv30 :: zv31 :: zv32 :: zv33 :: zv34 :: zv35 :: zv36 :: zv37 :: zv38 :: zv39 :: zv40 :: zv41 :: zv42 :: zv43 :: zv44 :: zv45 :: zc46 :: zc47 :: zc48 :: zc49 :: zc50 :: zc51 :: zc52 :: zc53 :: zc54 :: zc55 :: zc56 :: zc57 :: zc58 :: zc59 :: zc60 :: zc61 :: zc62 :: zc63 :: zc64 :: zc65 :: zc66 :: zc67 :: zc68 :: zc69 :: zc70 :: zc71 :: zc72 :: zc73 :: zc74 :: zc75 :: zc76 :: zc77 :: zc78 :: zc79 :: zc80 :: zc81 :: zc82 :: zc83 :: zc84 :: zc85 :: zc86 :: zc87 :: zc88 :: zc89 :: zc90 :: zc91 :: zc92 :: zc93 :: zc94 :: zc95 :: zc96 :: zc97 :: zc98 :: zc99 :: zc100 :: zc101 :: zc102 :: zc103 :: zc104 :: zc105 :: zc106 :: zc107 :: zc108 :: zc109 :: zc110 :: zc111 :: zc112 :: zc113 :: zc114 :: zc115 :: zc116 :: zc117 :: zc118 :: zc119 :: zc120 :: zc121 :: zc122 :: zc123 :: zc124 :: zc125 :: zc126 :: zc127 :: zc128 :: zc129 :: zc130 :: zc131 :: zc132 :: zc133 :: zc134 :: zc135 :: zc136 :: zc137 :: zc138 :: zc139 :: zc140 :: zc141 :: zc142 :: zc143 :: []), []⟩ w'') :
    Code.wp Tryz.prog (Code.loop (((Tryz.f8.body.map loopsOfT).getD [])[1]?.getD .skip : Code)) Q0 ⟨List.toArray (zc0 :: zc1 :: zc2 :: zc3 :: zc4 :: zc5 :: zc6 :: zc7 :: zc8 :: .string (M.str []) :: zc10 :: zc11 :: zc12 :: zc13 :: zc14 :: zc15 :: zc16 :: zc17 :: zc18 :: zc19 :: zc20 :: zc21 :: zc22 :: zc23 :: zc24 :: zc25 :: zc26 :: zc27 :: .slice ab bs.length cb :: .int .i64 bs.length :: .int .i64 0 :: zc31 :: zc32 :: zc33 :: zc34 :: zc35 :: zc36 :: zc37 :: zc38 :: zc39 :: zc40 :: zc41 :: zc42 :: zc43 :: zc44 :: zc45 :: zc46 :: zc47 :: zc48 :: zc49 :: zc50 :: zc51 :: zc52 :: zc53 :: zc54 :: zc55 :: zc56 :: zc57 :: zc58 :: zc59 :: zc60 :: zc61 :: zc62 :: zc63 :: zc64 :: zc65 :: zc66 :: zc67 :: zc68 :: zc69 :: zc70 :: zc71 :: zc72 :: zc73 :: zc74 :: zc75 :: zc76 :: zc77 :: zc78 :: zc79 :: zc80 :: zc81 :: zc82 :: zc83 :: zc84 :: zc85 :: zc86 :: zc87 :: zc88 :: zc89 :: zc90 :: zc91 :: zc92 :: zc93 :: zc94 :: zc95 :: zc96 :: zc97 :: zc98 :: zc99 :: zc100 :: zc101 :: zc102 :: zc103 :: zc104 :: zc105 :: zc106 :: zc107 :: zc108 :: zc109 :: zc110 :: zc111 :: zc112 :: zc113 :: zc114 :: zc115 :: zc116 :: zc117 :: zc118 :: zc119 :: zc120 :: zc121 :: zc122 :: zc123 :: zc124 :: zc125 :: zc126 :: zc127 :: zc128 :: zc129 :: zc130 :: zc131 :: zc132 :: zc133 :: zc134 :: zc135 :: zc136 :: zc137 :: zc138 :: zc139 :: zc140 :: zc141 :: zc142 :: zc143 :: []), []⟩ W0 := by
  conv => arg 2; arg 1; whnf
  go_loopw [9, 30] (fun s9 s30 wr => ∃ (k : Nat), k ≤ bs.length ∧ s9 = .string (M.str (M.hex (bs.take k))) ∧ s30 = .int .i64 k ∧ Hid (Below W0.heap.size W0 wr)) (fun _ s30 _ => bs.length - (intOf s30).toNat)
  case atStart => exact ⟨0, Nat.zero_le _, rfl, rfl, Below.refl _ _⟩
  case round =>
    obtain ⟨k, hk, rfl, rfl, HB⟩ := hrel
    by_cases hlt : k < bs.length
    · obtain ⟨b, off, har, hc⟩ := (hb.1.later HB.out).at k hlt
      have e0 := hc 0 (by decide)
      obtain ⟨hb0, hb1⟩ := hb.2 _ (getD_mem bs 0 k hlt)
      subst har
      simp only [Nat.mul_one, Nat.add_zero] at e0
      have HT : Hid (M.str (M.hex (bs.take (k + 1))) = M.str (M.hex (bs.take k)) ++ (⟨#[M.digit ((bs.getD k 0).toNat / 16)]⟩ ++ ⟨#[M.digit ((bs.getD k 0).toNat % 16)]⟩)) := by
        rw [Hid, hex_take hlt]
        apply WideShapes.bytes_inj
        simp [M.str, M.hex1]
      have hsz : (M.str (M.hex (bs.take k))).size ≤ 128 := by rw [sizeStr, hex_len, List.length_take]; omega
      generalize bs.getD k 0 = c at *
      obtain ⟨c, rfl⟩ := Int.eq_ofNat_of_zero_le hb0
      have hq0 : (0 : Int) ≤ (c : Int) / 16 := by omega
      have hq1 : (c : Int) / 16 ≤ 15 := by omega
      have hr0 : (0 : Int) ≤ (c : Int) % 16 := by omega
      have hr1 : (c : Int) % 16 ≤ 15 := by omega
      have hbr : b < wr.heap.size := World.block_lt_of_cell? _ _ e0
      have hkl : (k : Int) < (bs.length : Int) := by omega
      generalize M.str (M.hex (bs.take k)) = S at *
      have hL1 : ¬ (9223372036854775807 < S.size + 2) := by omega
      clear hc hsz
      go_upto_region 12 with fail
      refine wp_region_lat (by kernel_rfl) (by kernel_rfl) ?_
      intro hne
      repeat (go_big_quiet_step (fail))
      refine wpQuiet_nil ?_
      intro w2 hb2
      have hb2 := lat_out hb2
      clear hne
      go_wp2_with fail
      go_roundw
      case rel => exact ⟨k + 1, by omega, by rw [HT.out]; simp, by go_num, HB.out.trans (hb2.mono HB.out.size)⟩
      case measure => simp [intOf]; omega
    · have hkn : k = bs.length := by omega
      subst hkn
      have HT : Hid (M.hex (bs.take bs.length) = M.hex bs) := by rw [Hid, List.take_length]
      go_wp2_with fail
      exact ⟨by rw [HT.out], HB.out⟩

end Go.Proofs.YthiknlnhdjoipaaGreatDoor
