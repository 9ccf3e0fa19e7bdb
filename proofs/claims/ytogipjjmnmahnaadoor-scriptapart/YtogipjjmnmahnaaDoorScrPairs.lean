/-
  The contract of pairs: bytes of two digits each.
-/
import Derived.Test.YtogipjjmnmahnaaDoorScrSplit
import Derived.Deep.AppendLies
namespace Go.Proofs.YtogipjjmnmahnaaDoor
open Go Go.RowKit
set_option linter.unusedVariables false
attribute [local go_sem] lat_cell

def nibV (a : UInt8) : Int := match M.nib a with | some n => (n : Int) | none => -1

theorem ibyte_any (a : UInt8) (W : World) :
    Calls Tryd.prog 66 #[.string ⟨#[48, 49, 50, 51, 52, 53, 54, 55, 56, 57, 97, 98, 99, 100, 101, 102]⟩, .int .u8 a.toNat] W fun e w' => e = .returned (.int .i64 (nibV a)) ∧ w' = W := by
  have := Go.Proofs.Any.strings_IndexByte (P := Tryd.prog) (ρ := Tryd.lays137_ren) Tryd.lays137 ⟨#[48, 49, 50, 51, 52, 53, 54, 55, 56, 57, 97, 98, 99, 100, 101, 102]⟩ a.toNat W
  have e : ((a.toNat : Int).toNat).toUInt8 = a := by simp
  rw [e] at this
  have e2 : Lib.indexByte M.digits a = nibV a := nib_index a
  rw [← e2]
  exact this

theorem index_letter {P : Program} {t : M.Txt} {n : Nat} {a : UInt8} {r : M.Txt} {ty : TypeId} (h : P.underlying ty = some .string) (hd : t.drop n = a :: r) (w : World) :
    (Instr.index ty (.string (M.str t)) (.int .i64 n)).run P w = .ok (.int .u8 a.toNat) w := by
  have hn : n < t.length := by
    rcases Nat.lt_or_ge n t.length with h | h
    · exact h
    · rw [List.drop_of_length_le h] at hd; cases hd
  have hsz := str_size t
  rw [run_index_string w ty (M.str t) .i64 n h, dif_pos ⟨by omega, by omega⟩]
  have : t[n] = a := by
    have := List.drop_eq_getElem_cons hn
    rw [this] at hd
    exact (List.cons.inj hd).1
  have e : (M.str t)[((n : Int)).toNat]'(by simp; omega) = t[n] := by
    simp only [Int.toNat_natCast]
    rfl
  rw [e, this]

theorem pairs_odd : ∀ (t : M.Txt), ¬ t.length % 2 = 0 → M.pairs t = none
  | [], h => by simp at h
  | [_], _ => rfl
  | a :: b :: r, h => by
    have ih := pairs_odd r (by simp at h; omega)
    simp only [M.pairs, ih]
    cases M.nib a <;> cases M.nib b <;> rfl

set_option maxHeartbeats 4000000 in
set_option maxRecDepth 100000 in
theorem pairs_any (t : M.Txt) (hs : t.length ≤ 100000) (w : World) :
    Calls Tryd.prog 49 #[.string (M.str t)] w fun e w' => Below w.heap.size w w' ∧ ∃ v, e = .returned (.tuple #[v, .bool (M.bytesOf t).isSome]) ∧ (∃ ad nn cc, v = .slice ad nn cc) ∧ (∀ bs, M.bytesOf t = some bs → w'.ownsRow w.heap.size 5 1 v bs.length (bs.map (Value.int .u8))) := by
  obtain ⟨i0, hi, hz0, hz1, hz2⟩ := info_parts (Tryd.extra156.infoByte)
  have hz0 : i0.zero = some (.int .u8 0) := hz0
  have hi : Tryd.prog.info? 5 = some i0 := hi
  cases hd : ((M.str t).toList == [45])
  · have hne : t ≠ [45] := by rw [Lib.toList_data, beq_eq_false_iff_ne] at hd; exact fun h => hd (by rw [h]; rfl)
    have HBy : Hid (M.bytesOf t = M.pairs t) := by rw [Hid, M.bytesOf, if_neg hne]
    have hsz : (M.str t).size = t.length := str_size t
    by_cases hodd : t.length % 2 = 0
    · have hm : ((t.length : Int) % 2 != 0) = false := by simp; omega
      go_enter Tryd.func49, Tryd.ntmps49
      go_wp2_with fail
      go_loopw [4, 5] (fun s4 s5 wr => ∃ (acc : List Int) (r : M.Txt) (n : Nat), Hid (n = 2 * acc.length) ∧ s5 = .int .i64 n ∧ n + r.length = t.length ∧ t.drop n = r ∧ wr.ownsRow w.heap.size 5 1 s4 acc.length (acc.map (Value.int .u8)) ∧ Hid (M.pairs t = (M.pairs r).map (acc ++ ·)) ∧ Hid (Below w.heap.size w wr)) (fun _ s5 _ => t.length - (intOf s5).toNat)
      case atStart => exact ⟨[], t, 0, rfl, rfl, by omega, rfl, World.ownsRow_nil _ _ _ _, (show M.pairs t = (M.pairs t).map ([] ++ ·) by simp), Below.refl _ _⟩
      case round =>
        obtain ⟨acc, r, n, HN, rfl, hlen, hdr, hown, HP, HB⟩ := hrel
        match r, hlen, hdr, HP with
        | [], hlen, hdr, HP =>
          have hnt : n = t.length := by simpa using hlen
          have HP1 : Hid (M.bytesOf t = some acc) := by rw [Hid, HBy.out, HP.out]; simp [M.pairs]
          clear HP HBy
          subst hnt
          go_wp2
          go_ret2
          refine ⟨HB.out, u4, ?_, own_form hown, ?_⟩
          · rw [HP1.out]; rfl
          · intro bs hbs
            rw [HP1.out] at hbs
            cases hbs
            exact hown
        | [a], hlen, _, _ => have := HN.out; simp at hlen; omega
        | a :: b :: r', hlen, hdr, HP =>
          have hnl : (n : Int) < (t.length : Int) := by simp at hlen; omega
          have hn1 : t.drop (n + 1) = b :: r' := by rw [← List.drop_drop, hdr]; rfl
          have hn2 : t.drop (n + 2) = r' := by rw [← List.drop_drop, hdr]; rfl
          have hi0 : ∀ w, (Instr.index 9 (.string (M.str t)) (.int .i64 n)).run Tryd.prog w = .ok (.int .u8 a.toNat) w := index_letter Tryd.underlying9 hdr
          have hi1 : ∀ w, (Instr.index 9 (.string (M.str t)) (.int .i64 ((n : Int) + 1))).run Tryd.prog w = .ok (.int .u8 b.toNat) w := index_letter (n := n + 1) Tryd.underlying9 hn1
          clear hdr hn1 hd hne
          have hacc : acc.length ≤ 100000 := by have := HN.out; omega
          have K1 : Hid (∀ (c : UInt8) W, Calls Tryd.prog 66 #[.string ⟨#[48, 49, 50, 51, 52, 53, 54, 55, 56, 57, 97, 98, 99, 100, 101, 102]⟩, .int .u8 c.toNat] W fun e w' => e = .returned (.int .i64 (nibV c)) ∧ w' = W) := ibyte_any
          go_wp2_with fail
          refine wp_region_lat (by kernel_rfl) (by kernel_rfl) ?_
          intro hne
          repeat (go_big_quiet_step ((go_at_call 66; exact lat_of_same (K1.out _ _))))
          refine wpQuiet_nil ?_
          intro w2 hb2
          have hb2 := lat_out hb2
          clear hne hi0 hi1
          have hown2 := hown.kept (grown_of_below hb2 Option.none) (by cases hv : u4.ownBlock <;> simp)
          have HB2 : Hid (Below w.heap.size w w2) := HB.out.trans (hb2.mono HB.out.size)
          have hsize2 : w.heap.size ≤ w2.heap.size := HB2.out.size
          have bad : Hid (M.nib a = none ∨ M.nib b = none → M.bytesOf t = none) := by
            intro hor
            rw [HBy.out, HP.out]
            rcases hor with h | h
            · simp [M.pairs, h]
            · cases hx : M.nib a <;> simp [M.pairs, h, hx]
          cases hx : M.nib a with
          | none =>
            have HX : Hid (M.bytesOf t = none) := bad.out (.inl hx)
            have e1 : nibV a = -1 := by rw [nibV, hx]
            rw [e1]
            clear bad hx e1 HBy HP
            go_wp2
            go_ret2
            exact ⟨HB2.out, _, by rw [HX.out]; rfl, ⟨_, _, _, rfl⟩, fun bs hbs => by rw [HX.out] at hbs; cases hbs⟩
          | some x =>
            cases hy : M.nib b with
            | none =>
              have HX : Hid (M.bytesOf t = none) := bad.out (.inr hy)
              have e1 : nibV a = (x : Int) := by rw [nibV, hx]
              have e2 : nibV b = -1 := by rw [nibV, hy]
              have hx0 : ¬ ((x : Int) < 0) := by omega
              rw [e1, e2]
              clear bad hx hy e1 e2 HBy HP
              go_wp2
              go_ret2
              exact ⟨HB2.out, _, by rw [HX.out]; rfl, ⟨_, _, _, rfl⟩, fun bs hbs => by rw [HX.out] at hbs; cases hbs⟩
            | some y =>
              have hx16 := (digit_nib hx).1
              have hy16 := (digit_nib hy).1
              have HX : Hid (M.pairs t = (M.pairs r').map ((acc ++ [((16 * x + y : Nat) : Int)]) ++ ·)) := by
                rw [Hid, HP.out]
                simp only [M.pairs, hx, hy, Option.map_map]
                congr 1
                funext l
                simp
              have e1 : nibV a = (x : Int) := by rw [nibV, hx]
              have e2 : nibV b = (y : Int) := by rw [nibV, hy]
              have hx0 : ¬ ((x : Int) < 0) := by omega
              have hy0 : ¬ ((y : Int) < 0) := by omega
              rw [e1, e2]
              clear bad hx hy e1 e2 HP
              obtain ⟨z, hz⟩ : ∃ z : Nat, z = 16 * x + y := ⟨_, rfl⟩
              rw [← hz] at HX
              have hbits : bits .or .i64 ((x : Int) * 16) (y : Int) = (z : Int) := by
                rw [bits_join .i64 8 (by decide) (fun n h0 h1 => by have : n < 256 := h1; unfold IntKind.wrap; simp [IntKind.signed, IntKind.bits]; omega) 4 ((x : Int) * 16) y (by omega) (by omega) (by omega) (by omega) (by omega) (by omega)]
                omega
              have hz256 : (z : Int) % 256 = (z : Int) := by omega
              have hzl : z < 256 := by omega
              clear hz
              go_wp2_with (at_builtin; refine wpList_append_own _ rfl _ _ 36 rfl w.heap.size 5 i0 (.int .u8 0) 1 1 Tryd.underlying36 hi hz0 hz1 hz2 rfl (by decide) _ _ _ rfl (hown2.alloc _) ⟨w2.heap.size, 0, none⟩ 1 1 [.int .u8 z] rfl rfl (cell_one_new _ _ _) (fun u hu => by simp at hu; subst hu; rfl) (by unfold maxLen; omega) (by omega) (by simp; omega) ?_; intro v' w3 hown' hgrow3 hnil3)
              go_roundw
              case rel =>
                refine ⟨acc ++ [(z : Int)], r', n + 2, ?_, by go_num, by simp at hlen; omega, hn2, ?_, HX, ?_⟩
                · have := HN.out; show n + 2 = _; simp; omega
                · rw [List.length_append, List.map_append]; exact hown'
                · refine (HB2.out.alloc hsize2 _).grown hgrow3 (by simp; omega) (fun k hk => ?_)
                  exact (hown2.lt k hk).1
              case measure => simp [intOf]; omega
    · have hm : ((t.length : Int) % 2 != 0) = true := by simp; omega
      have HP1 : Hid (M.bytesOf t = none) := by
        rw [Hid, HBy.out]
        exact pairs_odd t hodd
      clear HBy
      go_enter Tryd.func49, Tryd.ntmps49
      go_wp2
      go_ret2
      exact ⟨Below.refl _ _, _, by rw [HP1.out]; rfl, ⟨_, _, _, rfl⟩, fun bs hbs => by rw [HP1.out] at hbs; cases hbs⟩
  · have he : t = [45] := by rw [Lib.toList_data, beq_iff_eq] at hd; simpa [M.str] using hd
    have HP1 : Hid (M.bytesOf t = some []) := by rw [Hid, M.bytesOf, if_pos he]
    clear he
    go_enter Tryd.func49, Tryd.ntmps49
    go_wp2
    go_ret2
    exact ⟨Below.refl _ _, _, by rw [HP1.out]; rfl, ⟨_, _, _, rfl⟩, fun bs hbs => by rw [HP1.out] at hbs; cases hbs; exact World.ownsRow_nil _ _ _ _⟩

end Go.Proofs.YtogipjjmnmahnaaDoor
