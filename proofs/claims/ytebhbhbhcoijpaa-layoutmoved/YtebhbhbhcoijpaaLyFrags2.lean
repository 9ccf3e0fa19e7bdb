/-
  The walk of layout.layFrags.
-/
import Derived.Test.YtebhbhbhcoijpaaLyFrags
namespace Go.Proofs.Ytebhbhbhcoijpaa
open Go Go.RowKit Go.Maps
set_option linter.unusedVariables false
attribute [local go_sem] lat_cell

theorem take_snoc {α : Type} (l : List α) (d : α) (k : Nat) (h : k < l.length) : l.take (k + 1) = l.take k ++ [l.getD k d] := by
  rw [List.take_succ_eq_append_getElem h, List.getD_eq_getElem?_getD, List.getElem?_eq_getElem h]; rfl

theorem set_get (l : List Int) (k : Nat) (x : Int) (h : k < l.length) : (l.set k x).getD k 0 = x := by
  rw [List.getD_eq_getElem?_getD, List.getElem?_set_self h]; rfl

theorem wf_small {x : Int} (h0 : 0 ≤ x) (h1 : x ≤ 1000000) : (Lit.int .i64 x).wf = true := by
  show (decide ((IntKind.i64).min ≤ x) && decide (x ≤ (IntKind.i64).max)) = true
  rw [Bool.and_eq_true, decide_eq_true_eq, decide_eq_true_eq]
  exact ⟨Int.le_trans (by decide) h0, Int.le_trans h1 (by decide)⟩

set_option maxHeartbeats 8000000 in
set_option maxRecDepth 100000 in
theorem layFrags_any (sect pos : Int) (fs : List M.Frg) (tl : List Int) (B g cap : Nat) (aF : Option Addr) (cF : Nat) (w : World)
    (HF : Hid (∀ W, w.grownBy W (some g) → FragsAt W (.slice aF fs.length cF) fs))
    (hto : w.ownsRow B 3 1 (.slice (some ⟨g, 0, none⟩) fs.length cap) fs.length (tl.map (Value.int .i64)))
    (hn : fs.length ≤ 60) (HOk : Hid (∀ f ∈ fs, M.FrgOk f ∧ TextOk f.bytes f.align)) (h0 : 0 ≤ pos) (h1 : pos ≤ 100000) :
    Calls Try.prog 65 #[.slice (some ⟨g, 0, none⟩) fs.length cap, .slice aF fs.length cF, .int .i64 sect, .int .i64 pos] w fun e w' =>
      e = .returned (.int .i64 (M.layFrags sect tl fs pos).pos) ∧ w.grownBy w' (some g) ∧ w'.ownsRow B 3 1 (.slice (some ⟨g, 0, none⟩) fs.length cap) fs.length ((M.layFrags sect tl fs pos).adr.map (Value.int .i64)) := by
  have hmm := @run_makeMap Try.prog
  have hlen : tl.length = fs.length := by have := hto.1; rwa [List.length_map, Nat.mul_one] at this
  have HI0 : Hid (LI w (w.alloc (.map #[] 0)) B g cap fs.length w.heap.size 0 (.map []) tl) := ⟨World.ownsMap_made _ _ _ _, hto.kept (World.grownBy_alloc w _ none) own_self, World.grownBy_alloc w _ _, Nat.le_refl _⟩
  have HL : Hid (M.layFrags sect tl fs pos = M.layGo sect ⟨tl, pos, []⟩ 0 fs) := rfl
  clear hto
  go_enter Try.func65, Try.ntmps65
  go_wp2_with fail
  clear hmm
  generalize w.alloc (.map #[] 0) = X0 at *
  go_loopw [3, 18] (fun s3 s18 wr => ∃ (k : Nat) (D : DataW Unit) (st : M.LS), k ≤ fs.length ∧ s18 = .int .i64 k ∧ s3 = .int .i64 st.pos ∧ Hid (st = M.layGo sect ⟨tl, pos, []⟩ 0 (fs.take k)) ∧ Hid (SeenAt D st.seen) ∧ Hid (LI w wr B g cap fs.length w.heap.size k D st.adr) ∧ 0 ≤ st.pos ∧ st.pos ≤ pos + 71 * k ∧ Hid (∀ x ∈ st.seen, 0 ≤ x.2.2 ∧ x.2.2 ≤ st.pos) ∧ Hid (st.adr.length = fs.length)) (fun _ s18 _ => fs.length - (intOf s18).toNat)
  case atStart => exact ⟨0, .map [], ⟨tl, pos, []⟩, Nat.zero_le _, rfl, rfl, rfl, SeenAt.nil, HI0, h0, by show pos ≤ pos + 71 * ((0 : Nat) : Int); omega, (fun x hx => by cases hx), hlen⟩
  case round =>
    obtain ⟨k, D, st, hk, rfl, rfl, HS, HSe, HI, hp0, hp1, HSn, HLn⟩ := hrel
    clear HI0
    by_cases hlt : k < fs.length
    · obtain ⟨b, off, ab, cb, ar, cr, rfl, e0, e1, e2, e3, e4, e5, hBy, hRl, hg, hbl⟩ := (HF.out wr HI.out.gb).cells k hlt
      have HS1 : Hid (M.layStep sect st k (fs.getD k frg0) = M.layGo sect ⟨tl, pos, []⟩ 0 (fs.take (k + 1))) := by
        rw [Hid, take_snoc fs frg0 k hlt, M.layGo_snoc, ← HS.out, List.length_take, Nat.zero_add, Nat.min_eq_left hk]
      obtain ⟨hok, htx⟩ := HOk.out _ (getD_mem fs frg0 k hlt)
      have HP1 := M.layStep_pos (sect := sect) (i := k) hok hp0
      have HN1 : Hid (∀ x ∈ (M.layStep sect st k (fs.getD k frg0)).seen, 0 ≤ x.2.2 ∧ x.2.2 ≤ (M.layStep sect st k (fs.getD k frg0)).pos) := M.layStep_seen hok hp0 hp0 HSn.out
      have HLn1 : Hid ((M.layStep sect st k (fs.getD k frg0)).adr.length = fs.length) := (M.layStep_len ..).trans HLn.out
      clear hRl hbl HS
      generalize fs.getD k frg0 = f at *
      have hbr : b < wr.heap.size := World.block_lt_of_cell? _ _ e0
      have hkl : (k : Int) < (fs.length : Int) := by omega
      have hgn : g < wr.heap.size := (row_cell HI.out.row k hlt).2.2
      have hmn : w.heap.size < wr.heap.size := HI.out.map.lt
      by_cases hs : f.sect = sect
      · have HST : Hid (M.layStep sect st k f = (M.look st.seen f.bytes f.align).elim (M.layNew sect st k f) (M.layOld st k)) := if_pos hs
        have hal := hok.align
        have hnb := M.next_bounds hp0 hal
        have hl0 := hok.long0
        have hl64 := hok.long64
        have hsm := hok.small
        have hLong : M.long f = M.lng f.sect f.size f.bytes.length := rfl
        obtain ⟨s, al, gr, bs, sz, rs⟩ := f
        simp only at e0 e1 e2 e3 e4 e5 hg hs htx hBy hal hnb hsm hLong
        subst hs
        go_upto_region 6 with fail
        have xf := heap_alloc_new wr (.cells #[.int .i64 s, .int .i64 al, .string gr, .slice ab bs.length cb, .int .i64 sz, .slice ar rs.length cr] 43)
        have hB1 : Below wr.heap.size wr (wr.alloc (.cells #[.int .i64 s, .int .i64 al, .string gr, .slice ab bs.length cb, .int .i64 sz, .slice ar rs.length cr] 43)) := (Below.refl _ _).alloc (Nat.le_refl _) _
        have HI1 : Hid (LI w (wr.alloc (.cells #[.int .i64 s, .int .i64 al, .string gr, .slice ab bs.length cb, .int .i64 sz, .slice ar rs.length cr] 43)) B g cap fs.length w.heap.size k D st.adr) := HI.out.later hB1
        have hcv := conv_bytes (hBy.later hB1)
        clear e0 e1 e2 e3 e4 e5 HI hB1 hBy
        generalize wr.alloc (.cells #[.int .i64 s, .int .i64 al, .string gr, .slice ab bs.length cb, .int .i64 sz, .slice ar rs.length cr] 43) = X at *
        generalize wr.heap.size = nf at *
        have hlf : nf < X.heap.size := (Array.getElem?_eq_some_iff.1 xf).1
        have kf3 : X.cell? ⟨nf, 3, none⟩ = some (.slice ab bs.length cb) := cellB xf 3
        have kf1 : X.cell? ⟨nf, 1, none⟩ = some (.int .i64 al) := cellB xf 1
        go_upto_region 7 with fail
        have xk := heap_alloc_new X (.cells #[.string (strOfNums bs), .int .i64 al] 148)
        have hB2 : Below X.heap.size X (X.alloc (.cells #[.string (strOfNums bs), .int .i64 al] 148)) := (Below.refl _ _).alloc (Nat.le_refl _) _
        have HI2 : Hid (LI w (X.alloc (.cells #[.string (strOfNums bs), .int .i64 al] 148)) B g cap fs.length w.heap.size k D st.adr) := HI1.out.later hB2
        have xf2 := (hB2.block _ hlf).trans xf
        clear hcv kf3 kf1 HI1 hB2 xf
        generalize X.alloc (.cells #[.string (strOfNums bs), .int .i64 al] 148) = Y at *
        generalize X.heap.size = nk at *
        obtain ⟨c, hlook, hc⟩ := HI2.out.look HSe.out htx
        have kk0 : Y.cell? ⟨nk, 0, none⟩ = some (.string (strOfNums bs)) := cellB xk 0
        have kk1 : Y.cell? ⟨nk, 1, none⟩ = some (.int .i64 al) := cellB xk 1
        have hlk : nk < Y.heap.size := (Array.getElem?_eq_some_iff.1 xk).1
        obtain ⟨kg, zg, hlg⟩ := row_cell HI2.out.row k hlt
        cases hL : M.look st.seen bs al with
        | some x =>
          have hcx := hc x hL
          subst hcx
          rw [hL] at hlook HST
          have HST' : Hid (M.layStep s st k ⟨s, al, gr, bs, sz, rs⟩ = M.layOld st k c) := HST.out
          have HI3 : Hid (LI w (Y.setCell ⟨g, k, none⟩ (.int .i64 c)) B g cap fs.length w.heap.size (k + 1) D (M.layOld st k c).adr) := (HI2.out.store k c).more
          clear HI2 xk xf2 HST hc
          rw [HST'.out] at HS1 HP1 HN1 HLn1
          go_wp2
          go_roundw
          case rel => exact ⟨k + 1, D, M.layOld st k c, by omega, by go_num, rfl, HS1, HSe, HI3, by omega, by omega, HN1, HLn1⟩
          case measure => simp [intOf]; omega
        | none =>
          rw [hL] at hlook HST
          have HST' : Hid (M.layStep s st k ⟨s, al, gr, bs, sz, rs⟩ = M.layNew s st k ⟨s, al, gr, bs, sz, rs⟩) := HST.out
          clear HST hc
          rw [HST'.out] at HS1 HP1 HN1 HLn1
          have hkn : nf < nk := hlf
          have KN : Hid (Calls Try.prog 64 #[.int .i64 st.pos, .int .i64 al] Y fun e w' => e = .returned (.int .i64 (M.next st.pos al)) ∧ Y = w') := (next_any st.pos al hp0 (by omega) hal Y).mono fun e w' ⟨h1, h2⟩ => ⟨h1, h2.symm⟩
          have KLg : Hid (∀ W, Calls Try.prog 102 #[.agg #[.int .i64 s, .int .i64 al, .string gr, .slice ab bs.length cb, .int .i64 sz, .slice ar rs.length cr]] W fun e w' => e = .returned (.int .i64 (M.lng s sz bs.length)) ∧ Below W.heap.size W w') := fun W => long_any s al sz gr ab bs.length cb _ W
          have kf1 : Y.cell? ⟨nf, 1, none⟩ = some (.int .i64 al) := cellB xf2 1
          have hlf2 : nf < Y.heap.size := (Array.getElem?_eq_some_iff.1 xf2).1
          go_upto_region 11 with (go_at_call 64; refine KN.out.mono ?_; rintro e w' ⟨rfl, rfl⟩)
          have HI3 : Hid (LI w (Y.setCell ⟨g, k, none⟩ (.int .i64 (M.next st.pos al))) B g cap fs.length w.heap.size k D (st.adr.set k (M.next st.pos al))) := HI2.out.store k _
          have xf3 : (Y.setCell ⟨g, k, none⟩ (.int .i64 (M.next st.pos al))).heap[nf]? = some (.cells #[.int .i64 s, .int .i64 al, .string gr, .slice ab bs.length cb, .int .i64 sz, .slice ar rs.length cr] 43 (0, 0)) := (Below.heap_setCell _ _ _ _ (by show nf ≠ g; omega)).trans xf2
          have xk3 : (Y.setCell ⟨g, k, none⟩ (.int .i64 (M.next st.pos al))).heap[nk]? = some (.cells #[.string (strOfNums bs), .int .i64 al] 148 (0, 0)) := (Below.heap_setCell _ _ _ _ (by show nk ≠ g; omega)).trans xk
          clear HI2 xf2 xk KN kf1 kk0 kk1 kg zg hlook hlf2 hlk hlg
          generalize Y.setCell ⟨g, k, none⟩ (.int .i64 (M.next st.pos al)) = Z at *
          have f0 : Z.cell? ⟨nf, 0, none⟩ = some (.int .i64 s) := cellB xf3 0
          have f1 : Z.cell? ⟨nf, 1, none⟩ = some (.int .i64 al) := cellB xf3 1
          have f2 : Z.cell? ⟨nf, 2, none⟩ = some (.string gr) := cellB xf3 2
          have f3 : Z.cell? ⟨nf, 3, none⟩ = some (.slice ab bs.length cb) := cellB xf3 3
          have f4 : Z.cell? ⟨nf, 4, none⟩ = some (.int .i64 sz) := cellB xf3 4
          have f5 : Z.cell? ⟨nf, 5, none⟩ = some (.slice ar rs.length cr) := cellB xf3 5
          have hlZ : nf < Z.heap.size := (Array.getElem?_eq_some_iff.1 xf3).1
          have kz := (row_cell HI3.out.row k hlt).1
          rw [set_get _ _ _ (by rw [HLn.out]; exact hlt)] at kz
          refine wp_region_lat (by kernel_rfl) (by kernel_rfl) ?_
          intro hne
          repeat (go_big_quiet_step ((go_at_call 102; exact lat_of (KLg.out _))))
          refine wpQuiet_nil ?_
          intro V hbV
          have hbV := lat_out hbV
          clear hne f0 f1 f2 f3 f4 f5 KLg kz
          have HI4 : Hid (LI w V B g cap fs.length w.heap.size k D (st.adr.set k (M.next st.pos al))) := HI3.out.later hbV
          have xk4 := (hbV.block _ (Array.getElem?_eq_some_iff.1 xk3).1).trans xk3
          clear HI3 xf3 xk3 hbV hlZ
          have hadd : M.next st.pos al + M.lng s sz bs.length = (M.layNew s st k ⟨s, al, gr, bs, sz, rs⟩).pos := rfl
          by_cases h3 : s = 3
          · have HSe1 : Hid (SeenAt (D.put (textL bs al) (.lit (.int .i64 (M.next st.pos al)))) (M.layNew s st k ⟨s, al, gr, bs, sz, rs⟩).seen) := by
              have : (M.layNew s st k ⟨s, al, gr, bs, sz, rs⟩).seen = (bs, al, M.next st.pos al) :: st.seen := if_pos h3
              rw [Hid, this]
              exact HSe.out.put htx
            have h3' : (s == 3) = true := by simpa using h3
            clear h3
            obtain ⟨V2, hrun2, hg2, hI2⟩ := (HI4.out.later (Below.refl _ _).drew).put (by omega) htx (wf_small (x := M.next st.pos al) (by omega) (by omega))
            have HI5 : Hid (LI w V2 B g cap fs.length w.heap.size (k + 1) (D.put (textL bs al) (.lit (.int .i64 (M.next st.pos al)))) (M.layNew s st k ⟨s, al, gr, bs, sz, rs⟩).adr) := hI2
            have kz := (row_cell HI4.out.row k hlt).1
            rw [set_get _ _ _ (by rw [HLn.out]; exact hlt)] at kz
            have kz2 := (row_cell hI2.row k hlt).1
            rw [set_get _ _ _ (by rw [HLn.out]; exact hlt)] at kz2
            have k0 : V.cell? ⟨nk, 0, none⟩ = some (.string (strOfNums bs)) := cellB xk4 0
            have k1 : V.cell? ⟨nk, 1, none⟩ = some (.int .i64 al) := cellB xk4 1
            have hlV : nk < V.heap.size := (Array.getElem?_eq_some_iff.1 xk4).1
            have xk5 := (hg2.block nk hlV (by intro e; have := Option.some.inj e; omega)).trans xk4
            have k02 : V2.cell? ⟨nk, 0, none⟩ = some (.string (strOfNums bs)) := cellB xk5 0
            have k12 : V2.cell? ⟨nk, 1, none⟩ = some (.int .i64 al) := cellB xk5 1
            have HS0 : Hid (V.drew.cell? ⟨nk, 0, none⟩ = some (.string (strOfNums bs)) ∧ V.drew.cell? ⟨nk, 1, none⟩ = some (.int .i64 al) ∧ V.drew.cell? ⟨g, k, none⟩ = some (.int .i64 (M.next st.pos al))) := ⟨k0, k1, kz⟩
            have HS2 : Hid (V2.cell? ⟨nk, 0, none⟩ = some (.string (strOfNums bs)) ∧ V2.cell? ⟨nk, 1, none⟩ = some (.int .i64 al) ∧ V2.cell? ⟨g, k, none⟩ = some (.int .i64 (M.next st.pos al))) := ⟨k02, k12, kz2⟩
            clear HI4 hI2 hg2 xk4 xk5 k02 k12 kz2 k0 k1 kz HSe
            go_upto_region 13 with fail
            go_region_held3 (fun w' => w'.cell? ⟨nk, 0, none⟩ = some (.string (strOfNums bs)) ∧ w'.cell? ⟨nk, 1, none⟩ = some (.int .i64 al) ∧ w'.cell? ⟨g, k, none⟩ = some (.int .i64 (M.next st.pos al))) (first | exact HS0.out | exact HS2.out) (fail)
            all_goals
              clear HS0 HS2 hrun2
              go_wp2
              go_roundw
              case rel => exact ⟨k + 1, _, M.layNew s st k ⟨s, al, gr, bs, sz, rs⟩, by omega, by go_num, rfl, HS1, HSe1, HI5, by omega, by omega, HN1, HLn1⟩
              case measure => simp [intOf]; omega
          · have HSe1 : Hid (SeenAt D (M.layNew s st k ⟨s, al, gr, bs, sz, rs⟩).seen) := by
              have : (M.layNew s st k ⟨s, al, gr, bs, sz, rs⟩).seen = st.seen := if_neg h3
              rw [Hid, this]
              exact HSe.out
            have h3' : (s == 3) = false := by simpa using h3
            have HI5 : Hid (LI w V B g cap fs.length w.heap.size (k + 1) D (M.layNew s st k ⟨s, al, gr, bs, sz, rs⟩).adr) := HI4.out.more
            clear HI4 xk4 HSe
            go_wp2
            go_roundw
            case rel => exact ⟨k + 1, _, M.layNew s st k ⟨s, al, gr, bs, sz, rs⟩, by omega, by go_num, rfl, HS1, HSe1, HI5, by omega, by omega, HN1, HLn1⟩
            case measure => simp [intOf]; omega
      · have HST : Hid (M.layStep sect st k f = st) := if_neg hs
        have HI1 : Hid (LI w (wr.alloc (.cells #[.int .i64 f.sect, .int .i64 f.align, .string f.group, .slice ab f.bytes.length cb, .int .i64 f.size, .slice ar f.rels.length cr] 43)) B g cap fs.length w.heap.size (k + 1) D st.adr) := (HI.out.later ((Below.refl _ _).alloc (Nat.le_refl _) _)).more
        rw [HST.out] at HS1 HP1 HN1 HLn1
        have hne : (f.sect != sect) = true := by simpa using hs
        clear HI HST hBy hok
        obtain ⟨s, al, gr, bs, sz, rs⟩ := f
        simp only at e0 e1 e2 e3 e4 e5 hg hs htx HI1 hne
        go_wp2
        go_roundw
        case rel => exact ⟨k + 1, D, st, by omega, by go_num, rfl, HS1, HSe, HI1, by omega, by omega, HSn, HLn⟩
        case measure => simp [intOf]; omega
    · have hkl : k = fs.length := by omega
      subst hkl
      have HS1 := HS.out
      rw [List.take_length] at HS1
      have HE : Hid (M.layFrags sect tl fs pos = st) := by rw [Hid, HL.out, HS1]
      clear HS HS1
      go_wp2
      go_ret
      exact ⟨by rw [HE.out]; rfl, HI.out.gb, by rw [HE.out]; exact HI.out.row⟩

end Go.Proofs.Ytebhbhbhcoijpaa
