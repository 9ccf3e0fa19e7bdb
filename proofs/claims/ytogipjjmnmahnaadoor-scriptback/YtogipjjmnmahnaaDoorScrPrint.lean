/-
  The contract of script.Print.
-/
import Derived.Test.YtogipjjmnmahnaaDoorScrOk
import Derived.Test.YtogipjjmnmahnaaDoorCheck
import Derived.Test.YtogipjjmnmahnaaDoorQTail1
namespace Go.Proofs.YtogipjjmnmahnaaDoor
open Go Go.RowKit
set_option linter.unusedVariables false
attribute [local go_sem] lat_cell

theorem lat_bel {W : World} (x : Lat W) : Below W.heap.size W (lat W x) := x.below

theorem fits_of {n : Int} (h : -100000 ≤ n ∧ n ≤ 100000) : Fits n := ⟨by omega, by omega⟩

theorem print_bad (fs : List M.Frg) (ds : List M.Dfn) (a1 a2 : Option Addr) (c1 c2 : Nat) (w : World) (hf : FragsAt w (.slice a1 fs.length c1) fs) (hd : DefsAt w (.slice a2 ds.length c2) ds) (hbad : (M.checkPart ⟨fs, ds⟩ != 0) = true) :
    Calls Tryd.prog 5 #[.agg #[.slice a1 fs.length c1, .slice a2 ds.length c2]] w fun e w' =>
      e = .returned (.tuple #[.string ⟨#[]⟩, .int .i64 (M.checkPart ⟨fs, ds⟩)]) ∧ Below w.heap.size w w' := by
  have HC : Hid (∀ W, Below w.heap.size w W → Calls Tryd.prog 9 #[.agg #[.slice a1 fs.length c1, .slice a2 ds.length c2]] W fun e w' => e = .returned (.int .i64 (M.checkPart ⟨fs, ds⟩)) ∧ Below W.heap.size W w') := fun W hW =>
    check_any fs ds a1 a2 c1 c2 W (hf.later hW) (hd.later hW)
  generalize M.checkPart ⟨fs, ds⟩ = r at *
  clear hf hd
  generalize fs.length = n1 at *
  generalize ds.length = n2 at *
  go_enter Tryd.func5, Tryd.ntmps5
  go_wp2_with (go_at_call 9; refine (HC.out _ ((Below.refl _ _).alloc (Nat.le_refl _) _)).mono ?_; rintro e w1 ⟨rfl, hb1⟩)
  go_ret2
  exact ⟨rfl, ((Below.refl _ _).alloc (Nat.le_refl _) _).trans (hb1.mono (by simp))⟩

set_option maxHeartbeats 4000000 in
set_option maxRecDepth 100000 in
theorem print_ok (fs : List M.Frg) (ds : List M.Dfn) (a1 a2 : Option Addr) (c1 c2 : Nat) (w : World) (hG : Glob w) (hf : FragsAt w (.slice a1 fs.length c1) fs) (hd : DefsAt w (.slice a2 ds.length c2) ds) (hok : M.checkPart ⟨fs, ds⟩ = 0) :
    Calls Tryd.prog 5 #[.agg #[.slice a1 fs.length c1, .slice a2 ds.length c2]] w fun e w' =>
      e = .returned (.tuple #[.string (M.str (M.print ⟨fs, ds⟩)), .int .i64 0]) ∧ Below w.heap.size w w' := by
  have hO := part_ok hok
  have HC : Hid (∀ W, Below w.heap.size w W → Calls Tryd.prog 9 #[.agg #[.slice a1 fs.length c1, .slice a2 ds.length c2]] W fun e w' => e = .returned (.int .i64 0) ∧ Below W.heap.size W w') := fun W hW => by
    have := check_any fs ds a1 a2 c1 c2 W (hf.later hW) (hd.later hW)
    rwa [hok] at this
  go_enter Tryd.func5, Tryd.ntmps5
  go_wp2_with (go_at_call 9; refine (HC.out _ ((Below.refl _ _).alloc (Nat.le_refl _) _)).mono ?_; rintro e w1 ⟨rfl, hb1⟩; obtain ⟨hc1, hf1⟩ := bcell hb1; have hz1 := three_lt hb1)
  have hbw1 : Below w.heap.size w w1 := ((Below.refl _ _).alloc (Nat.le_refl _) _).trans (hb1.mono (by simp))
  have p0 : w1.cell? ⟨w.heap.size, 0, none⟩ = some (.slice a1 fs.length c1) := by
    rw [hb1.cell (p := ⟨w.heap.size, 0, none⟩) (by simp), World.cell?_alloc_at _ _ _ _ rfl]; rfl
  have p1 : w1.cell? ⟨w.heap.size, 1, none⟩ = some (.slice a2 ds.length c2) := by
    rw [hb1.cell (p := ⟨w.heap.size, 1, none⟩) (by simp), World.cell?_alloc_at _ _ _ _ rfl]; rfl
  have HB1 : Hid (Below w.heap.size w w1) := hbw1
  have hw1 : w.heap.size < w1.heap.size := hz1.1
  clear hb1 hc1 hf1 hz1 hbw1
  go_loopw [24] (fun s24 wr => ∃ (k : Nat), k ≤ fs.length ∧ s24 = .int .i64 k ∧ Bld wr w1.heap.size w1.heap.size (M.fragsText (fs.take k)) ∧ Hid (Below w1.heap.size w1 wr) ∧ (M.fragsText (fs.take k)).length ≤ 1000 * k) (fun s24 _ => fs.length - (intOf s24).toNat)
  case atStart => exact ⟨0, Nat.zero_le _, rfl, bld_new _, (Below.refl _ _).alloc (by simp) _, by simp [M.fragsText]⟩
  case round =>
    obtain ⟨k, hk, rfl, hl, HB, hlen⟩ := hrel
    by_cases hlt : k < fs.length
    · have hbw : Below w.heap.size w wr := HB1.out.trans (HB.out.mono (by omega))
      obtain ⟨b, off, ab, cb, ar, cr, har, e0, e1, e2, e3, e4, e5, hBy, hRl0, hg, hbl⟩ := hf.cells k hlt
      have e0 := cell_later hbw e0
      have e1 := cell_later hbw e1
      have e2 := cell_later hbw e2
      have e3 := cell_later hbw e3
      have e4 := cell_later hbw e4
      have e5 := cell_later hbw e5
      have hBy := hBy.later hbw
      have hkb : k ≤ 60 := Nat.le_trans hk hO.nfrags
      have hO1 := hO.frags _ (getD_mem fs frg0 k hlt)
      have HT : Hid (M.fragsText (fs.take (k + 1)) = M.fragsText (fs.take k) ++ M.fragText (fs.getD k frg0)) := flat_take frg0 M.fragText fs k hlt
      generalize fs.getD k frg0 = f at *
      subst har
      have hbr : b < wr.heap.size := World.block_lt_of_cell? _ _ e0
      go_wp2_with fail
      have HA : Hid (Below wr.heap.size wr (wr.alloc (.cells #[.int .i64 f.sect, .int .i64 f.align, .string f.group, .slice ab f.bytes.length cb, .int .i64 f.size, .slice ar f.rels.length cr] 49))) := (Below.refl _ _).alloc (Nat.le_refl _) _
      have q0 : (wr.alloc (.cells #[.int .i64 f.sect, .int .i64 f.align, .string f.group, .slice ab f.bytes.length cb, .int .i64 f.size, .slice ar f.rels.length cr] 49)).heap[wr.heap.size]? = some (.cells #[.int .i64 f.sect, .int .i64 f.align, .string f.group, .slice ab f.bytes.length cb, .int .i64 f.size, .slice ar f.rels.length cr] 49 (0, 0)) := heap_alloc_new _ _
      have hlW : Bld (wr.alloc (.cells #[.int .i64 f.sect, .int .i64 f.align, .string f.group, .slice ab f.bytes.length cb, .int .i64 f.size, .slice ar f.rels.length cr] 49)) w1.heap.size w1.heap.size (M.fragsText (fs.take k)) := hl.later HA.out
      generalize (wr.alloc (.cells #[.int .i64 f.sect, .int .i64 f.align, .string f.group, .slice ab f.bytes.length cb, .int .i64 f.size, .slice ar f.rels.length cr] 49)) = W at *
      have HW : Hid (Below w.heap.size w W) := hbw.trans (HA.out.mono hbw.size)
      have hGW := hG.later HW.out
      have HBW : Hid (Below w1.heap.size w1 W) := HB.out.trans (HA.out.mono (HB.out.size))
      have hByW := hBy.later HA.out
      have hle1 : w1.heap.size < wr.heap.size := hl.lt.2
      clear hBy hl HB hbw e0 e1 e2 e3 e4 e5
      obtain ⟨sect, al, g, bs, sz, rs⟩ := f
      simp only at *
      have hse := hO1.sect
      simp only at hse
      obtain ⟨m, rfl⟩ := Int.eq_ofNat_of_zero_le (show 0 ≤ sect by omega)
      have hm0 : (0 : Int) ≤ (m : Int) := by omega
      have hm1 : (m : Int) < 6 := by omega
      have hgs := hGW.sects m (by omega)
      have x0 : W.cell? ⟨wr.heap.size, 0, none⟩ = some (.int .i64 m) := cellB q0 0
      have x1 : W.cell? ⟨wr.heap.size, 1, none⟩ = some (.int .i64 al) := cellB q0 1
      have x2 : W.cell? ⟨wr.heap.size, 2, none⟩ = some (.string g) := cellB q0 2
      have x3 : W.cell? ⟨wr.heap.size, 3, none⟩ = some (.slice ab bs.length cb) := cellB q0 3
      have x4 : W.cell? ⟨wr.heap.size, 4, none⟩ = some (.int .i64 sz) := cellB q0 4
      have x5 : W.cell? ⟨wr.heap.size, 5, none⟩ = some (.slice ar rs.length cr) := cellB q0 5
      have K1 : Hid (∀ W', Below w.heap.size w W' → Calls Tryd.prog 14 #[.int .i64 al] W' fun e w' => e = .returned (.string (M.str (Lib.itoa al))) ∧ Below W'.heap.size W' w') := fun W' hW' => itoa_any al (fits_of (by have := hO1.align; simp only at this; omega)) W' (hG.later hW')
      have K2 : Hid (∀ W', Calls Tryd.prog 15 #[.string g] W' fun e w' => e = .returned (.string (M.str (M.orDash (M.txt g)))) ∧ w' = W') := fun W' => groupWord_any g W'
      have K3 : Hid (∀ W', Below W.heap.size W W' → Calls Tryd.prog 16 #[.agg #[.int .i64 m, .int .i64 al, .string g, .slice ab bs.length cb, .int .i64 sz, .slice ar rs.length cr]] W' fun e w' => e = .returned (.string (M.str (M.content ⟨m, al, g, bs, sz, rs⟩))) ∧ Below W'.heap.size W' w') := fun W' hW' =>
        content_any ⟨m, al, g, bs, sz, rs⟩ ab cb _ W' (hGW.later hW') (hByW.later hW') hO1.bytes (fits_of (show -100000 ≤ sz ∧ sz ≤ 100000 by have := hO1.size; simp only at this; omega))
      have HL : Hid (M.fragLine ⟨m, al, g, bs, sz, rs⟩ = M.line (([⟨#[102, 114, 97, 103]⟩, M.str (M.sectT.getD m []), M.str (Lib.itoa al), M.str (M.orDash (M.txt g)), M.str (M.content ⟨m, al, g, bs, sz, rs⟩)] : List ByteArray).map M.txt)) := by
        simp only [Hid, List.map_cons, List.map_nil, txt_str]; rfl
      have hLL := fragLine_len hO1
      generalize M.content ⟨m, al, g, bs, sz, rs⟩ = ct at *
      generalize M.orDash (M.txt g) = gt at *
      generalize M.sectT.getD m [] = st at *
      generalize Lib.itoa al = at' at *
      refine wp_region_tail1 12 (v := .func (.func 10) #[] #[.pointer (some ⟨w1.heap.size, 0, none⟩)]) (by kernel_rfl) (by kernel_rfl) (fun _ _ _ h => h) (Or.inl ⟨by rfl, fun _ => rfl⟩) ?_
      intro hne
      simp only [List.take_succ_cons, List.take_zero, List.drop_succ_cons, List.drop_zero, Act.put, List.setIfInBounds_toArray, List.set_cons_succ, List.set_cons_zero]
      repeat (go_big_quiet_step ((first | (go_at_call 14; exact lat_of (K1.out _ (HW.out.trans ((lat_bel _).mono HW.out.size)))) | (go_at_call 15; exact lat_of_same (K2.out _)) | (go_at_call 16; exact lat_of (K3.out _ (lat_bel _))))))
      refine wpQuiet_nil ?_
      intro w2 hb2
      have hb2 := lat_out hb2
      clear hne
      have HW2 : Hid (Calls Tryd.prog 10 #[.slice (some ⟨w2.heap.size, 0, none⟩) 5 5, .pointer (some ⟨w1.heap.size, 0, none⟩)] (w2.alloc (.cells #[.string ⟨#[102, 114, 97, 103]⟩, .string (M.str st), .string (M.str at'), .string (M.str gt), .string (M.str ct)] 9)) fun e w' =>
          e = .returned (.tuple #[]) ∧ Bld w' w1.heap.size w1.heap.size (M.fragsText (fs.take k) ++ M.fragLine ⟨m, al, g, bs, sz, rs⟩) ∧ Below w1.heap.size (w2.alloc (.cells #[.string ⟨#[102, 114, 97, 103]⟩, .string (M.str st), .string (M.str at'), .string (M.str gt), .string (M.str ct)] 9)) w' ∧ Lib.OthersKept 5 (some w1.heap.size) (w2.alloc (.cells #[.string ⟨#[102, 114, 97, 103]⟩, .string (M.str st), .string (M.str at'), .string (M.str gt), .string (M.str ct)] 9)) w') := by
        rw [HL.out]
        refine write_any w1.heap.size w1.heap.size w2.heap.size 0 5 _ [⟨#[102, 114, 97, 103]⟩, M.str st, M.str at', M.str gt, M.str ct] _ ((hlW.later hb2).later ((Below.refl _ _).alloc (Nat.le_refl _) _)) (fun j x hj => ?_) (by simp) (by simp) (by simp) (by rw [← HL.out]; omega)
        rw [World.cell?_alloc_at _ _ _ _ rfl]
        match j, hj with
        | 0, hj | 1, hj | 2, hj | 3, hj | 4, hj => simp at hj; subst hj; rfl
        | j + 5, hj => simp at hj
      have HK : Hid (∀ w3, Lib.OthersKept 5 (some w1.heap.size) (w2.alloc (.cells #[.string ⟨#[102, 114, 97, 103]⟩, .string (M.str st), .string (M.str at'), .string (M.str gt), .string (M.str ct)] 9)) w3 → w3.heap[wr.heap.size]? = some (.cells #[.int .i64 m, .int .i64 al, .string g, .slice ab bs.length cb, .int .i64 sz, .slice ar rs.length cr] 49 (0, 0))) := fun w3 hk3 => by
        have hwr : wr.heap.size < W.heap.size := (Array.getElem?_eq_some_iff.1 q0).1
        have hw12 := hle1
        refine hk3 wr.heap.size _ ?_ (fun h => ?_) (fun c fz h => ?_)
        · rw [Below.heap_alloc _ _ _ (by have := hb2.size; omega), hb2.block _ hwr]; exact q0
        · have := Option.some.inj h; have := hlW.lt; omega
        · cases h
      have HB2 : Hid (Below w1.heap.size w1 (w2.alloc (.cells #[.string ⟨#[102, 114, 97, 103]⟩, .string (M.str st), .string (M.str at'), .string (M.str gt), .string (M.str ct)] 9))) :=
        (HBW.out.trans (hb2.mono HBW.out.size)).trans ((Below.refl _ _).alloc (by have := HBW.out.size; have := hb2.size; omega) _)
      go_wp2_with (go_at_call 10; refine HW2.out.mono ?_; rintro e w3 ⟨rfl, hl3, hb3, hk3⟩; have y5 : w3.cell? ⟨wr.heap.size, 5, none⟩ = some (.slice ar rs.length cr) := cellB (HK.out _ hk3) 5)
      have HB3 : Hid (Below w1.heap.size w1 w3) := HB2.out.trans hb3
      have hlen3 : (M.fragsText (fs.take k) ++ M.fragLine ⟨m, al, g, bs, sz, rs⟩).length ≤ 1000 * k + 200 := by rw [List.length_append]; omega
      have HT2 : Hid (M.fragsText (fs.take (k + 1)) = M.fragsText (fs.take k) ++ M.fragLine ⟨m, al, g, bs, sz, rs⟩ ++ M.relsText rs) := by rw [Hid, HT.out, M.fragText, List.append_assoc]
      have hrs := hO1.rels
      simp only at hrs
      have hnr : rs.length ≤ 8 := hO1.nrels
      clear HL HK hk3 hb3 HB2 HW2 K1 K2 K3 hb2 hlW hByW HBW HA q0 hLL hlen HT y5 x0 x1 x2 x3 x4 x5 hO1 hgs hGW HW
      generalize M.fragsText (fs.take k) ++ M.fragLine ⟨m, al, g, bs, sz, rs⟩ = T0 at *
      go_loopw [46] (fun s46 wr => ∃ (j : Nat), j ≤ rs.length ∧ s46 = .int .i64 j ∧ Bld wr w1.heap.size w1.heap.size (T0 ++ M.relsText (rs.take j)) ∧ Hid (Below w1.heap.size w1 wr) ∧ (T0 ++ M.relsText (rs.take j)).length ≤ 1000 * k + 200 + 100 * j) (fun s46 _ => rs.length - (intOf s46).toNat)
      case atStart => exact ⟨0, Nat.zero_le _, rfl, by simpa [M.relsText] using hl3, HB3, by simpa [M.relsText] using hlen3⟩
      case round =>
        clear hl3 HB3 hlen3
        obtain ⟨j, hj, rfl, hl, HB, hlen⟩ := hrel
        by_cases hjt : j < rs.length
        · have hbw : Below w.heap.size w wr := HB1.out.trans (HB.out.mono (by omega))
          obtain ⟨b', off', har, hc⟩ := (hRl0.1.later hbw).at j hjt
          have hO1 := hrs _ (getD_mem rs rel0 j hjt)
          have HT : Hid (M.relsText (rs.take (j + 1)) = M.relsText (rs.take j) ++ M.relLine (rs.getD j rel0)) := flat_take rel0 M.relLine rs j hjt
          generalize rs.getD j rel0 = r at *
          obtain ⟨pos, kind, name, frag, add⟩ := r
          have e0 := hc 0 (by decide)
          have e1 := hc 1 (by decide)
          have e2 := hc 2 (by decide)
          have e3 := hc 3 (by decide)
          have e4 := hc 4 (by decide)
          simp only [relCell, Nat.add_zero] at e0 e1 e2 e3 e4
          subst har
          have hbr : b' < wr.heap.size := World.block_lt_of_cell? _ _ e0
          clear hc
          go_wp2_with fail
          have HA : Hid (Below wr.heap.size wr (wr.alloc (.cells #[.int .i64 pos, .int .i64 kind, .string name, .int .i64 frag, .int .i64 add] 56))) := (Below.refl _ _).alloc (Nat.le_refl _) _
          have q0 : (wr.alloc (.cells #[.int .i64 pos, .int .i64 kind, .string name, .int .i64 frag, .int .i64 add] 56)).heap[wr.heap.size]? = some (.cells #[.int .i64 pos, .int .i64 kind, .string name, .int .i64 frag, .int .i64 add] 56 (0, 0)) := heap_alloc_new _ _
          have hlW : Bld (wr.alloc (.cells #[.int .i64 pos, .int .i64 kind, .string name, .int .i64 frag, .int .i64 add] 56)) w1.heap.size w1.heap.size (T0 ++ M.relsText (rs.take j)) := hl.later HA.out
          generalize (wr.alloc (.cells #[.int .i64 pos, .int .i64 kind, .string name, .int .i64 frag, .int .i64 add] 56)) = W at *
          have HW : Hid (Below w.heap.size w W) := hbw.trans (HA.out.mono hbw.size)
          have hGW := hG.later HW.out
          have HBW : Hid (Below w1.heap.size w1 W) := HB.out.trans (HA.out.mono (HB.out.size))
          clear hl HB hbw e0 e1 e2 e3 e4
          have hse := hO1.kind
          simp only at hse
          obtain ⟨m', rfl⟩ := Int.eq_ofNat_of_zero_le (show 0 ≤ kind by omega)
          have hm0' : (0 : Int) ≤ (m' : Int) := by omega
          have hm1' : (m' : Int) < 6 := by omega
          have hgs := hGW.kinds m' (by omega)
          have x0 : W.cell? ⟨wr.heap.size, 0, none⟩ = some (.int .i64 pos) := cellB q0 0
          have x1 : W.cell? ⟨wr.heap.size, 1, none⟩ = some (.int .i64 m') := cellB q0 1
          have x2 : W.cell? ⟨wr.heap.size, 2, none⟩ = some (.string name) := cellB q0 2
          have x3 : W.cell? ⟨wr.heap.size, 3, none⟩ = some (.int .i64 frag) := cellB q0 3
          have x4 : W.cell? ⟨wr.heap.size, 4, none⟩ = some (.int .i64 add) := cellB q0 4
          have K1 : Hid (∀ W', Below w.heap.size w W' → Calls Tryd.prog 14 #[.int .i64 pos] W' fun e w' => e = .returned (.string (M.str (Lib.itoa pos))) ∧ Below W'.heap.size W' w') := fun W' hW' => itoa_any pos (fits_of (by have := hO1.pos; simp only at this; omega)) W' (hG.later hW')
          have K2 : Hid (∀ W', Below w.heap.size w W' → Calls Tryd.prog 17 #[.agg #[.int .i64 pos, .int .i64 m', .string name, .int .i64 frag, .int .i64 add]] W' fun e w' => e = .returned (.string (M.str (M.toWord ⟨pos, m', name, frag, add⟩))) ∧ Below W'.heap.size W' w') := fun W' hW' => targetWord_any ⟨pos, m', name, frag, add⟩ (fits_of (show -100000 ≤ frag ∧ frag ≤ 100000 by have := hO1.frag; simp only at this; omega)) W' (hG.later hW')
          have K3 : Hid (∀ W', Below w.heap.size w W' → Calls Tryd.prog 14 #[.int .i64 add] W' fun e w' => e = .returned (.string (M.str (Lib.itoa add))) ∧ Below W'.heap.size W' w') := fun W' hW' => itoa_any add (fits_of (by have := hO1.add; simp only at this; omega)) W' (hG.later hW')
          have HL : Hid (M.relLine ⟨pos, m', name, frag, add⟩ = M.line (([⟨#[97, 116]⟩, M.str (Lib.itoa pos), M.str (M.kindT.getD m' []), M.str (M.toWord ⟨pos, m', name, frag, add⟩), M.str (Lib.itoa add)] : List ByteArray).map M.txt)) := by
            simp only [Hid, List.map_cons, List.map_nil, txt_str]; rfl
          have hLL := relLine_len hO1
          generalize M.toWord ⟨pos, m', name, frag, add⟩ = tw at *
          generalize M.kindT.getD m' [] = kt at *
          generalize Lib.itoa pos = pt at *
          generalize Lib.itoa add = dt at *
          refine wp_region_tail1 12 (v := .func (.func 10) #[] #[.pointer (some ⟨w1.heap.size, 0, none⟩)]) (by kernel_rfl) (by kernel_rfl) (fun _ _ _ h => h) (Or.inl ⟨by rfl, fun _ => rfl⟩) ?_
          intro hne
          simp only [List.take_succ_cons, List.take_zero, List.drop_succ_cons, List.drop_zero, Act.put, List.setIfInBounds_toArray, List.set_cons_succ, List.set_cons_zero]
          repeat (go_big_quiet_step ((first | (go_at_call 14; exact lat_of (K1.out _ (HW.out.trans ((lat_bel _).mono HW.out.size)))) | (go_at_call 14; exact lat_of (K3.out _ (HW.out.trans ((lat_bel _).mono HW.out.size)))) | (go_at_call 17; exact lat_of (K2.out _ (HW.out.trans ((lat_bel _).mono HW.out.size)))))))
          refine wpQuiet_nil ?_
          intro w2 hb2
          have hb2 := lat_out hb2
          clear hne
          have HW2 : Hid (Calls Tryd.prog 10 #[.slice (some ⟨w2.heap.size, 0, none⟩) 5 5, .pointer (some ⟨w1.heap.size, 0, none⟩)] (w2.alloc (.cells #[.string ⟨#[97, 116]⟩, .string (M.str pt), .string (M.str kt), .string (M.str tw), .string (M.str dt)] 9)) fun e w' =>
              e = .returned (.tuple #[]) ∧ Bld w' w1.heap.size w1.heap.size (T0 ++ M.relsText (rs.take j) ++ M.relLine ⟨pos, m', name, frag, add⟩) ∧ Below w1.heap.size (w2.alloc (.cells #[.string ⟨#[97, 116]⟩, .string (M.str pt), .string (M.str kt), .string (M.str tw), .string (M.str dt)] 9)) w' ∧ Lib.OthersKept 5 (some w1.heap.size) (w2.alloc (.cells #[.string ⟨#[97, 116]⟩, .string (M.str pt), .string (M.str kt), .string (M.str tw), .string (M.str dt)] 9)) w') := by
            rw [HL.out]
            refine write_any w1.heap.size w1.heap.size w2.heap.size 0 5 _ [⟨#[97, 116]⟩, M.str pt, M.str kt, M.str tw, M.str dt] _ ((hlW.later hb2).later ((Below.refl _ _).alloc (Nat.le_refl _) _)) (fun j x hj => ?_) (by simp) (by simp) (by simp) (by rw [← HL.out]; omega)
            rw [World.cell?_alloc_at _ _ _ _ rfl]
            match j, hj with
            | 0, hj | 1, hj | 2, hj | 3, hj | 4, hj => simp at hj; subst hj; rfl
            | j + 5, hj => simp at hj
          have HB2 : Hid (Below w1.heap.size w1 (w2.alloc (.cells #[.string ⟨#[97, 116]⟩, .string (M.str pt), .string (M.str kt), .string (M.str tw), .string (M.str dt)] 9))) :=
            (HBW.out.trans (hb2.mono HBW.out.size)).trans ((Below.refl _ _).alloc (by have := HBW.out.size; have := hb2.size; omega) _)
          go_wp2_with (go_at_call 10; refine HW2.out.mono ?_; rintro e w3 ⟨rfl, hl3, hb3, hk3⟩)
          go_roundw
          case rel =>
            refine ⟨j + 1, by omega, by go_num, by rw [HT.out, ← List.append_assoc]; exact hl3, HB2.out.trans hb3, ?_⟩
            rw [HT.out, ← List.append_assoc, List.length_append]
            omega
          case measure => simp [intOf]; omega
        · have hjn : j = rs.length := by omega
          subst hjn
          rw [List.take_length] at hl hlen
          rw [← HT2.out] at hl hlen
          go_wp2_with fail
          go_roundw
          case rel => exact ⟨k + 1, by omega, by go_num, hl, HB, by omega⟩
          case measure => simp [intOf]; omega
    · have hkn : k = fs.length := by omega
      subst hkn
      rw [List.take_length] at hl hlen
      have p1' : wr.cell? ⟨w.heap.size, 1, none⟩ = some (.slice a2 ds.length c2) := (HB.out.cell (p := ⟨w.heap.size, 1, none⟩) hw1).trans p1
      have hlen0 : (M.fragsText fs).length ≤ 60000 := by have := hO.nfrags; omega
      have HPr : Hid (M.print ⟨fs, ds⟩ = M.fragsText fs ++ M.defsText ds) := rfl
      clear hlen
      generalize M.fragsText fs = T0 at *
      go_wp2_with fail
      go_loopw [70] (fun s70 wr => ∃ (j : Nat), j ≤ ds.length ∧ s70 = .int .i64 j ∧ Bld wr w1.heap.size w1.heap.size (T0 ++ M.defsText (ds.take j)) ∧ Hid (Below w1.heap.size w1 wr) ∧ (T0 ++ M.defsText (ds.take j)).length ≤ 60000 + 100 * j) (fun s70 _ => ds.length - (intOf s70).toNat)
      case atStart => exact ⟨0, Nat.zero_le _, rfl, by simpa [M.defsText] using hl, HB, by simpa [M.defsText] using hlen0⟩
      case round =>
        clear hl HB hlen0 p1'
        obtain ⟨j, hj, rfl, hl, HB, hlen⟩ := hrel
        have hnd := hO.ndefs
        by_cases hjt : j < ds.length
        · have hbw : Below w.heap.size w wr := HB1.out.trans (HB.out.mono (by omega))
          obtain ⟨b', off', har, e0, e1, e2, e3, e4, e5, hnm⟩ := (hd.later hbw).cells j hjt
          have hO1 := hO.defs _ (getD_mem ds dfn0 j hjt)
          have HT : Hid (M.defsText (ds.take (j + 1)) = M.defsText (ds.take j) ++ M.defLine (ds.getD j dfn0)) := flat_take dfn0 M.defLine ds j hjt
          generalize ds.getD j dfn0 = d at *
          obtain ⟨name, kind, frag, pos, size, align⟩ := d
          simp only at e0 e1 e2 e3 e4 e5 hnm
          subst har
          have hbr : b' < wr.heap.size := World.block_lt_of_cell? _ _ e0
          go_wp2_with fail
          have HA : Hid (Below wr.heap.size wr (wr.alloc (.cells #[.string name, .int .i64 kind, .int .i64 frag, .int .i64 pos, .int .i64 size, .int .i64 align] 59))) := (Below.refl _ _).alloc (Nat.le_refl _) _
          have q0 : (wr.alloc (.cells #[.string name, .int .i64 kind, .int .i64 frag, .int .i64 pos, .int .i64 size, .int .i64 align] 59)).heap[wr.heap.size]? = some (.cells #[.string name, .int .i64 kind, .int .i64 frag, .int .i64 pos, .int .i64 size, .int .i64 align] 59 (0, 0)) := heap_alloc_new _ _
          have hlW : Bld (wr.alloc (.cells #[.string name, .int .i64 kind, .int .i64 frag, .int .i64 pos, .int .i64 size, .int .i64 align] 59)) w1.heap.size w1.heap.size (T0 ++ M.defsText (ds.take j)) := hl.later HA.out
          generalize (wr.alloc (.cells #[.string name, .int .i64 kind, .int .i64 frag, .int .i64 pos, .int .i64 size, .int .i64 align] 59)) = W at *
          have HW : Hid (Below w.heap.size w W) := hbw.trans (HA.out.mono hbw.size)
          have hGW := hG.later HW.out
          have HBW : Hid (Below w1.heap.size w1 W) := HB.out.trans (HA.out.mono (HB.out.size))
          clear hl HB hbw e0 e1 e2 e3 e4 e5
          have hse := hO1.kind
          simp only at hse
          obtain ⟨m', rfl⟩ := Int.eq_ofNat_of_zero_le (show 0 ≤ kind by omega)
          have hm0' : (0 : Int) ≤ (m' : Int) := by omega
          have hm1' : (m' : Int) < 6 := by omega
          have x0 : W.cell? ⟨wr.heap.size, 0, none⟩ = some (.string name) := cellB q0 0
          have x1 : W.cell? ⟨wr.heap.size, 1, none⟩ = some (.int .i64 m') := cellB q0 1
          have x2 : W.cell? ⟨wr.heap.size, 2, none⟩ = some (.int .i64 frag) := cellB q0 2
          have x3 : W.cell? ⟨wr.heap.size, 3, none⟩ = some (.int .i64 pos) := cellB q0 3
          have x4 : W.cell? ⟨wr.heap.size, 4, none⟩ = some (.int .i64 size) := cellB q0 4
          have x5 : W.cell? ⟨wr.heap.size, 5, none⟩ = some (.int .i64 align) := cellB q0 5
          refine wp_region_lat (by kernel_rfl) (by kernel_rfl) ?_
          intro hne
          repeat (go_big_quiet_step (fail))
          refine wpQuiet_nil ?_
          intro w2 hb2
          have hb2 := lat_out hb2
          clear hne
          have y0 := cell_later hb2 x0
          have y1 := cell_later hb2 x1
          have y4 := cell_later hb2 x4
          have y5 := cell_later hb2 x5
          by_cases hk3 : (m' : Int) = 3
          · have hkb : ((m' : Int) == 3) = true := by simpa using hk3
            have HK3 : Hid ((m' : Int) = 3) := hk3
            clear hk3
            go_wp2_with fail
            refine wp_region_lat (by kernel_rfl) (by kernel_rfl) ?_
            intro hne
            repeat (go_big_quiet_step (fail))
            refine wpQuiet_nil ?_
            intro w4 hb4
            have hb4 := lat_out hb4
            clear hne
            have z0 := cell_later hb4 y0
            have z1 := cell_later hb4 y1
            have hb24 : Below W.heap.size W w4 := hb2.trans (hb4.mono hb2.size)
            clear x0 x1 x2 x3 x4 x5 y0 y1 y4 y5 hkb
            go_wp2_with fail
            have HV : Hid (Below w.heap.size w w4) := HW.out.trans (hb24.mono HW.out.size)
            have HBV : Hid (Below w1.heap.size w1 w4) := HBW.out.trans (hb24.mono HBW.out.size)
            have hgs := (hGW.later hb24).defs m' (by omega)
            have hlV := hlW.later hb24
            have K1 : Hid (∀ W', Below w.heap.size w W' → Calls Tryd.prog 14 #[.int .i64 size] W' fun e w' => e = .returned (.string (M.str (Lib.itoa size))) ∧ Below W'.heap.size W' w') := fun W' hW' => itoa_any size (fits_of (by have := hO1.first; simp only [M.defFirst, if_pos HK3.out] at this; omega)) W' (hG.later hW')
            have K3 : Hid (∀ W', Below w.heap.size w W' → Calls Tryd.prog 14 #[.int .i64 align] W' fun e w' => e = .returned (.string (M.str (Lib.itoa align))) ∧ Below W'.heap.size W' w') := fun W' hW' => itoa_any align (fits_of (by have := hO1.second; simp only [M.defSecond, if_pos HK3.out] at this; omega)) W' (hG.later hW')
            have HL : Hid (M.defLine ⟨name, m', frag, pos, size, align⟩ = M.line (([⟨#[100, 101, 102]⟩, name, M.str (M.defT.getD m' []), M.str (Lib.itoa size), M.str (Lib.itoa align)] : List ByteArray).map M.txt)) := by
              simp only [Hid, List.map_cons, List.map_nil, txt_str, M.defLine, M.defFirst, M.defSecond, if_pos HK3.out]; rfl
            have hLL := defLine_len hO1
            generalize M.defT.getD m' [] = kt at *
            generalize Lib.itoa size = at' at *
            generalize Lib.itoa align = bt at *
            refine wp_region_tail1 10 (v := .func (.func 10) #[] #[.pointer (some ⟨w1.heap.size, 0, none⟩)]) (by kernel_rfl) (by kernel_rfl) (fun _ _ _ h => h) (Or.inl ⟨by rfl, fun _ => rfl⟩) ?_
            intro hne
            simp only [List.take_succ_cons, List.take_zero, List.drop_succ_cons, List.drop_zero, Act.put, List.setIfInBounds_toArray, List.set_cons_succ, List.set_cons_zero]
            repeat (go_big_quiet_step ((first | (go_at_call 14; exact lat_of (K1.out _ (HV.out.trans ((lat_bel _).mono HV.out.size)))) | (go_at_call 14; exact lat_of (K3.out _ (HV.out.trans ((lat_bel _).mono HV.out.size)))))))
            refine wpQuiet_nil ?_
            intro w5 hb5
            have hb5 := lat_out hb5
            clear hne
            have HW2 : Hid (Calls Tryd.prog 10 #[.slice (some ⟨w5.heap.size, 0, none⟩) 5 5, .pointer (some ⟨w1.heap.size, 0, none⟩)] (w5.alloc (.cells #[.string ⟨#[100, 101, 102]⟩, .string name, .string (M.str kt), .string (M.str at'), .string (M.str bt)] 9)) fun e w' =>
                e = .returned (.tuple #[]) ∧ Bld w' w1.heap.size w1.heap.size (T0 ++ M.defsText (ds.take j) ++ M.defLine ⟨name, m', frag, pos, size, align⟩) ∧ Below w1.heap.size (w5.alloc (.cells #[.string ⟨#[100, 101, 102]⟩, .string name, .string (M.str kt), .string (M.str at'), .string (M.str bt)] 9)) w' ∧ Lib.OthersKept 5 (some w1.heap.size) (w5.alloc (.cells #[.string ⟨#[100, 101, 102]⟩, .string name, .string (M.str kt), .string (M.str at'), .string (M.str bt)] 9)) w') := by
              rw [HL.out]
              refine write_any w1.heap.size w1.heap.size w5.heap.size 0 5 _ [⟨#[100, 101, 102]⟩, name, M.str kt, M.str at', M.str bt] _ ((hlV.later hb5).later ((Below.refl _ _).alloc (Nat.le_refl _) _)) (fun j x hj => ?_) (by simp) (by simp) (by simp) (by rw [← HL.out]; omega)
              rw [World.cell?_alloc_at _ _ _ _ rfl]
              match j, hj with
              | 0, hj | 1, hj | 2, hj | 3, hj | 4, hj => simp at hj; subst hj; rfl
              | j + 5, hj => simp at hj
            have HB2 : Hid (Below w1.heap.size w1 (w5.alloc (.cells #[.string ⟨#[100, 101, 102]⟩, .string name, .string (M.str kt), .string (M.str at'), .string (M.str bt)] 9))) :=
              (HBV.out.trans (hb5.mono HBV.out.size)).trans ((Below.refl _ _).alloc (by have := HBV.out.size; have := hb5.size; omega) _)
            go_wp2_with (go_at_call 10; refine HW2.out.mono ?_; rintro e w6 ⟨rfl, hl6, hb6, hk6⟩)
            go_roundw
            case rel =>
              refine ⟨j + 1, by omega, by go_num, by rw [HT.out, ← List.append_assoc]; exact hl6, HB2.out.trans hb6, ?_⟩
              rw [HT.out, ← List.append_assoc, List.length_append]
              omega
            case measure => simp [intOf]; omega
          · have hkb : ((m' : Int) == 3) = false := by simpa using hk3
            clear x0 x1 x2 x3 x4 x5 y4 y5
            go_wp2_with fail
            clear hkb
            have HV : Hid (Below w.heap.size w w2) := HW.out.trans (hb2.mono HW.out.size)
            have HBV : Hid (Below w1.heap.size w1 w2) := HBW.out.trans (hb2.mono HBW.out.size)
            have hgs := (hGW.later hb2).defs m' (by omega)
            have hlV := hlW.later hb2
            have K1 : Hid (∀ W', Below w.heap.size w W' → Calls Tryd.prog 14 #[.int .i64 frag] W' fun e w' => e = .returned (.string (M.str (Lib.itoa frag))) ∧ Below W'.heap.size W' w') := fun W' hW' => itoa_any frag (fits_of (by have := hO1.first; simp only [M.defFirst, if_neg hk3] at this; omega)) W' (hG.later hW')
            have K3 : Hid (∀ W', Below w.heap.size w W' → Calls Tryd.prog 14 #[.int .i64 pos] W' fun e w' => e = .returned (.string (M.str (Lib.itoa pos))) ∧ Below W'.heap.size W' w') := fun W' hW' => itoa_any pos (fits_of (by have := hO1.second; simp only [M.defSecond, if_neg hk3] at this; omega)) W' (hG.later hW')
            have HL : Hid (M.defLine ⟨name, m', frag, pos, size, align⟩ = M.line (([⟨#[100, 101, 102]⟩, name, M.str (M.defT.getD m' []), M.str (Lib.itoa frag), M.str (Lib.itoa pos)] : List ByteArray).map M.txt)) := by
              simp only [Hid, List.map_cons, List.map_nil, txt_str, M.defLine, M.defFirst, M.defSecond, if_neg hk3]; rfl
            have hLL := defLine_len hO1
            generalize M.defT.getD m' [] = kt at *
            generalize Lib.itoa frag = at' at *
            generalize Lib.itoa pos = bt at *
            refine wp_region_tail1 10 (v := .func (.func 10) #[] #[.pointer (some ⟨w1.heap.size, 0, none⟩)]) (by kernel_rfl) (by kernel_rfl) (fun _ _ _ h => h) (Or.inl ⟨by rfl, fun _ => rfl⟩) ?_
            intro hne
            simp only [List.take_succ_cons, List.take_zero, List.drop_succ_cons, List.drop_zero, Act.put, List.setIfInBounds_toArray, List.set_cons_succ, List.set_cons_zero]
            repeat (go_big_quiet_step ((first | (go_at_call 14; exact lat_of (K1.out _ (HV.out.trans ((lat_bel _).mono HV.out.size)))) | (go_at_call 14; exact lat_of (K3.out _ (HV.out.trans ((lat_bel _).mono HV.out.size)))))))
            refine wpQuiet_nil ?_
            intro w5 hb5
            have hb5 := lat_out hb5
            clear hne
            have HW2 : Hid (Calls Tryd.prog 10 #[.slice (some ⟨w5.heap.size, 0, none⟩) 5 5, .pointer (some ⟨w1.heap.size, 0, none⟩)] (w5.alloc (.cells #[.string ⟨#[100, 101, 102]⟩, .string name, .string (M.str kt), .string (M.str at'), .string (M.str bt)] 9)) fun e w' =>
                e = .returned (.tuple #[]) ∧ Bld w' w1.heap.size w1.heap.size (T0 ++ M.defsText (ds.take j) ++ M.defLine ⟨name, m', frag, pos, size, align⟩) ∧ Below w1.heap.size (w5.alloc (.cells #[.string ⟨#[100, 101, 102]⟩, .string name, .string (M.str kt), .string (M.str at'), .string (M.str bt)] 9)) w' ∧ Lib.OthersKept 5 (some w1.heap.size) (w5.alloc (.cells #[.string ⟨#[100, 101, 102]⟩, .string name, .string (M.str kt), .string (M.str at'), .string (M.str bt)] 9)) w') := by
              rw [HL.out]
              refine write_any w1.heap.size w1.heap.size w5.heap.size 0 5 _ [⟨#[100, 101, 102]⟩, name, M.str kt, M.str at', M.str bt] _ ((hlV.later hb5).later ((Below.refl _ _).alloc (Nat.le_refl _) _)) (fun j x hj => ?_) (by simp) (by simp) (by simp) (by rw [← HL.out]; omega)
              rw [World.cell?_alloc_at _ _ _ _ rfl]
              match j, hj with
              | 0, hj | 1, hj | 2, hj | 3, hj | 4, hj => simp at hj; subst hj; rfl
              | j + 5, hj => simp at hj
            have HB2 : Hid (Below w1.heap.size w1 (w5.alloc (.cells #[.string ⟨#[100, 101, 102]⟩, .string name, .string (M.str kt), .string (M.str at'), .string (M.str bt)] 9))) :=
              (HBV.out.trans (hb5.mono HBV.out.size)).trans ((Below.refl _ _).alloc (by have := HBV.out.size; have := hb5.size; omega) _)
            go_wp2_with (go_at_call 10; refine HW2.out.mono ?_; rintro e w6 ⟨rfl, hl6, hb6, hk6⟩)
            go_roundw
            case rel =>
              refine ⟨j + 1, by omega, by go_num, by rw [HT.out, ← List.append_assoc]; exact hl6, HB2.out.trans hb6, ?_⟩
              rw [HT.out, ← List.append_assoc, List.length_append]
              omega
            case measure => simp [intOf]; omega
        · have hjn : j = ds.length := by omega
          subst hjn
          rw [List.take_length] at hl hlen
          rw [← HPr.out] at hl hlen
          have HS : Hid (∀ W, Bld W w1.heap.size w1.heap.size (M.print ⟨fs, ds⟩) → Calls Tryd.prog 18 #[.pointer (some ⟨w1.heap.size, 0, none⟩)] W fun e w' => e = .returned (.string (M.str (M.print ⟨fs, ds⟩))) ∧ Below w1.heap.size W w') := fun W hW => bstring_any _ _ _ W hW
          go_wp2_with (go_at_call 18; refine (HS.out _ hl).mono ?_; rintro e w2 ⟨rfl, hb2⟩)
          go_ret2
          exact ⟨rfl, HB1.out.trans ((HB.out.trans hb2).mono (by omega))⟩

/-- script.Print of any part. -/
theorem print_any (fs : List M.Frg) (ds : List M.Dfn) (a1 a2 : Option Addr) (c1 c2 : Nat) (w : World) (hG : Glob w) (hf : FragsAt w (.slice a1 fs.length c1) fs) (hd : DefsAt w (.slice a2 ds.length c2) ds) :
    Calls Tryd.prog 5 #[.agg #[.slice a1 fs.length c1, .slice a2 ds.length c2]] w fun e w' =>
      e = .returned (.tuple #[.string (M.str (if M.checkPart ⟨fs, ds⟩ = 0 then M.print ⟨fs, ds⟩ else [])), .int .i64 (M.checkPart ⟨fs, ds⟩)]) ∧ Below w.heap.size w w' := by
  by_cases h : M.checkPart ⟨fs, ds⟩ = 0
  · rw [if_pos h]
    have := print_ok fs ds a1 a2 c1 c2 w hG hf hd h
    rwa [← h] at this
  · rw [if_neg h]
    exact print_bad fs ds a1 a2 c1 c2 w hf hd (by simpa using h)

end Go.Proofs.YtogipjjmnmahnaaDoor
