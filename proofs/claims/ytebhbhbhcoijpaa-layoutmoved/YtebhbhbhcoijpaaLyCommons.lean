/-
  The contract of layout.layCommons.
-/
import Derived.Test.YtebhbhbhcoijpaaLyFrags2
import Derived.Test.YtebhbhbhcoijpaaNmTop
namespace Go.Proofs.Ytebhbhbhcoijpaa
open Go Go.RowKit
set_option linter.unusedVariables false

/-- a common definition within its bounds -/
structure ComOk (d : M.Dfn) : Prop where
  align : M.AlignOk d.align
  small : d.align ≤ 8
  size0 : 0 ≤ d.size
  size64 : d.size ≤ 64

theorem comOk_of {d : M.Dfn} (h : M.plainDfn d = 0) (hk : (d.kind == 3) = true) : ComOk d := by
  have hk' : d.kind = 3 := by simpa using hk
  unfold M.plainDfn at h
  split at h
  · cases h
  rw [if_neg (by omega)] at h
  cases hb : (d.frag == 0 && d.pos == 0 && M.within d.size 1 64 && M.isAlign d.align)
  · rw [hb] at h
    simp at h
  · simp only [Bool.and_eq_true, beq_iff_eq, M.within, decide_eq_true_eq] at hb
    have ha := M.alignOk_of hb.2
    exact ⟨ha.1, ha.2, by omega, by omega⟩

theorem comOk_grow {o d : M.Dfn} (h : ComOk o) (h' : ComOk d) : ComOk (M.grow o d) := by
  have h1 : (M.grow o d).align = o.align ∨ (M.grow o d).align = d.align := by
    show max o.align d.align = _ ∨ max o.align d.align = _
    omega
  have h2 : (M.grow o d).size = o.size ∨ (M.grow o d).size = d.size := by
    show max o.size d.size = _ ∨ max o.size d.size = _
    omega
  refine ⟨?_, ?_, ?_, ?_⟩
  · rcases h1 with e | e <;> rw [e]
    · exact h.align
    · exact h'.align
  · rcases h1 with e | e <;> rw [e]
    · exact h.small
    · exact h'.small
  · rcases h2 with e | e <;> rw [e]
    · exact h.size0
    · exact h'.size0
  · rcases h2 with e | e <;> rw [e]
    · exact h.size64
    · exact h'.size64

theorem comOk_fold : ∀ (l : List M.Dfn) (o : M.Dfn), ComOk o → (∀ d ∈ l, ComOk d) → ComOk (l.foldl M.grow o)
  | [], o, h, _ => h
  | d :: l, o, h, hl => comOk_fold l (M.grow o d) (comOk_grow h (hl d (List.mem_cons_self ..))) fun x hx => hl x (List.mem_cons_of_mem _ hx)

theorem kind_of {ds : List M.Dfn} {s : ByteArray} {k : Int} {d : M.Dfn} (h : d ∈ M.ofKind ds s k) : d ∈ ds ∧ (d.kind == k) = true := by
  obtain ⟨h1, h2⟩ := List.mem_filter.1 h
  unfold M.isDef at h2
  exact ⟨h1, (Bool.and_eq_true_iff.1 h2).2⟩

theorem headD_mem {l : List M.Dfn} (h : 0 < l.length) (d : M.Dfn) : l.headD d ∈ l := by
  cases l with
  | nil => simp at h
  | cons x l => exact List.mem_cons_self ..

theorem common_ok {p : M.Prt} (hp : M.Ok p) (n : ByteArray) (h0 : (M.find p.defs n).2 = 0) (hk : (M.find p.defs n).1.kind = 3) : ComOk (M.find p.defs n).1 := by
  unfold M.find M.findIn at h0 hk ⊢
  split at h0
  · cases h0
  split at h0
  · rename_i h1 h2
    rw [if_neg h1, if_pos h2] at hk
    have := (kind_of (headD_mem (l := M.ofKind p.defs n 1) (by omega) M.dfnZ)).2
    rw [beq_iff_eq] at this
    simp only at hk
    omega
  split at h0
  · rename_i h1 h2 h3
    rw [if_neg h1, if_neg h2, if_pos h3]
    have hall : ∀ d ∈ M.ofKind p.defs n 3, ComOk d := fun d hd => comOk_of (hp.plain d (kind_of hd).1) (kind_of hd).2
    exact comOk_fold _ _ (hall _ (headD_mem h3 _)) hall
  split at h0
  · rename_i h1 h2 h3 h4
    rw [if_neg h1, if_neg h2, if_neg h3, if_pos h4] at hk
    have := (kind_of (headD_mem (l := M.ofKind p.defs n 2) h4 M.dfnZ)).2
    rw [beq_iff_eq] at this
    simp only at hk
    omega
  · cases h0

theorem commons_take (ds : List M.Dfn) (s : M.CS) (L : List ByteArray) (k : Nat) (h : k < L.length) : (L.take (k + 1)).foldl (M.comStep ds) s = M.comStep ds ((L.take k).foldl (M.comStep ds) s) (L.getD k str0) := by
  rw [take_snoc L str0 k h, List.foldl_append]; rfl

set_option maxHeartbeats 8000000 in
set_option maxRecDepth 100000 in
theorem layCommons_any (p : M.Prt) (pos : Int) (a1 a2 : Option Addr) (c1 c2 : Nat) (w : World) (hf : FragsAt w (.slice a1 p.frags.length c1) p.frags) (hd : DefsAt w (.slice a2 p.defs.length c2) p.defs) (hck : M.checkPart p = 0) (h0 : 0 ≤ pos) (h1 : pos ≤ 100000) :
    Calls Try.prog 66 #[.agg #[.slice a1 p.frags.length c1, .slice a2 p.defs.length c2], .int .i64 pos] w fun e w' => Below w.heap.size w w' ∧ ∃ vN vC, e = .returned (.tuple #[vN, vC, .int .i64 (M.commons p pos).pos]) ∧
      w'.ownsRow w.heap.size 9 1 vN (M.commons p pos).names.length ((M.commons p pos).names.map Value.string) ∧ w'.ownsRow w.heap.size 3 1 vC (M.commons p pos).at_.length ((M.commons p pos).at_.map (Value.int .i64)) ∧ (∀ s ∈ (M.commons p pos).names, s.size ≤ maxLen) ∧ (M.commons p pos).names.length = (M.commons p pos).at_.length ∧ (M.commons p pos).names.length ≤ 60 ∧ 0 ≤ (M.commons p pos).pos ∧ (M.commons p pos).pos ≤ pos + 4260 := by
  obtain ⟨i0, hi, hz0, hz1, hz2⟩ := info_parts (P := Try.prog) (e := 9) (z := .string ⟨#[]⟩) (size := 1) (bytes := 16) (by kernel_rfl)
  obtain ⟨i1, hi1, hy0, hy1, hy2⟩ := info_parts (P := Try.prog) (e := 3) (z := .int .i64 0) (size := 1) (bytes := 8) (by kernel_rfl)
  have hok := (M.ok_iff p).1 hck
  have HW : Hid (M.commons p pos = (M.rising (M.definedNames p.defs)).foldl (M.comStep p.defs) ⟨[], [], pos⟩) := rfl
  have lD : (M.rising (M.definedNames p.defs)).length ≤ 60 := by
    have h1 := rising_le (M.definedNames p.defs)
    have h2 : (M.definedNames p.defs).length = p.defs.length := by simp [M.definedNames]
    have := hok.nd
    omega
  have hA : Below w.heap.size w (w.alloc (.cells #[.slice a1 p.frags.length c1, .slice a2 p.defs.length c2] 25)) := (Below.refl _ _).alloc (Nat.le_refl _) _
  have q0 := heap_alloc_new w (.cells #[.slice a1 p.frags.length c1, .slice a2 p.defs.length c2] 25)
  have HFD : Hid (∀ W, Below w.heap.size w W → FragsAt W (.slice a1 p.frags.length c1) p.frags ∧ DefsAt W (.slice a2 p.defs.length c2) p.defs) := fun W hW => ⟨hf.later hW, hd.later hW⟩
  have KF : Hid (∀ s W, Below w.heap.size w W → Calls Try.prog 52 #[.agg #[.slice a1 p.frags.length c1, .slice a2 p.defs.length c2], .string s] W fun e w' => e = .returned (.tuple #[.agg (dfnArr (M.find p.defs s).1), .int .i64 (M.find p.defs s).2]) ∧ Below W.heap.size W w') := fun s W hW => by
    have := findP_any p s a1 a2 c1 c2 W (hf.later hW) (hd.later hW)
    unfold findOf at this
    rwa [if_pos hck] at this
  have KD : Hid (∀ W, Below w.heap.size w W → Calls Try.prog 20 #[.agg #[.slice a1 p.frags.length c1, .slice a2 p.defs.length c2]] W fun e w' => Below W.heap.size W w' ∧ ∃ x y, e = .returned (.tuple #[.slice x (M.rising (M.definedNames p.defs)).length y, .int .i64 0]) ∧ StrsAt w' (.slice x (M.rising (M.definedNames p.defs)).length y) (M.rising (M.definedNames p.defs))) := fun W hW =>
    (definedP_any p a1 a2 c1 c2 W (hf.later hW) (hd.later hW)).mono fun e w' ⟨h1, v, h2, h3, h4⟩ => by
      have hx : definedOfP p = M.rising (M.definedNames p.defs) := if_pos hck
      rw [hx] at h3 h4
      rw [hck] at h2
      obtain ⟨x, y, rfl⟩ := own_len h3
      exact ⟨h1, x, y, h2, row_strs h3 h4⟩
  have HCO : Hid (∀ n, (M.find p.defs n).2 = 0 → (M.find p.defs n).1.kind = 3 → ComOk (M.find p.defs n).1) := fun n => common_ok hok n
  clear hf hd hck hok
  generalize M.rising (M.definedNames p.defs) = L at *
  go_enter Try.func66, Try.ntmps66
  go_upto_region 2 with (go_at_call 20; refine (KD.out _ hA).mono ?_; rintro e X ⟨hb1, x, y, rfl, hL⟩)
  have HX : Hid (Below w.heap.size w X) := hA.trans (hb1.mono hA.size)
  have q1 := (hb1.block _ (Array.getElem?_eq_some_iff.1 q0).1).trans q0
  have HL : Hid (StrsAt X (.slice x L.length y) L) := hL
  clear hA q0 hb1 hL KD
  have hwX : w.heap.size ≤ X.heap.size := HX.out.size
  have hl0 : w.heap.size < X.heap.size := (Array.getElem?_eq_some_iff.1 q1).1
  have HQ : Hid (∀ W, Below X.heap.size X W → W.cell? ⟨w.heap.size, 0, none⟩ = some (.slice a1 p.frags.length c1) ∧ W.cell? ⟨w.heap.size, 1, none⟩ = some (.slice a2 p.defs.length c2)) := fun W hW => by
    have := (hW.block _ hl0).trans q1
    exact ⟨cellB this 0, cellB this 1⟩
  clear q1
  go_wp2_with fail
  go_loopw [1, 4, 5, 20] (fun s1 s4 s5 s20 wr => ∃ (k : Nat) (st : M.CS), k ≤ L.length ∧ s20 = .int .i64 k ∧ s1 = .int .i64 st.pos ∧ Hid (st = (L.take k).foldl (M.comStep p.defs) ⟨[], [], pos⟩) ∧ wr.ownsRow X.heap.size 9 1 s4 st.names.length (st.names.map Value.string) ∧ wr.ownsRow X.heap.size 3 1 s5 st.at_.length (st.at_.map (Value.int .i64)) ∧ Hid (Below X.heap.size X wr) ∧ st.names.length = st.at_.length ∧ st.names.length ≤ k ∧ Hid (∀ s ∈ st.names, s.size ≤ maxLen) ∧ 0 ≤ st.pos ∧ st.pos ≤ pos + 71 * k) (fun _ _ _ s20 _ => L.length - (intOf s20).toNat)
  case atStart => exact ⟨0, ⟨[], [], pos⟩, Nat.zero_le _, rfl, rfl, rfl, World.ownsRow_nil _ _ _ _, World.ownsRow_nil _ _ _ _, Below.refl _ _, rfl, Nat.le_refl _, (fun s hs => by cases hs), h0, by show pos ≤ pos + 71 * ((0 : Nat) : Int); omega⟩
  case round =>
    obtain ⟨k, st, hk, rfl, rfl, HS, hoN, hoC, HB, hnc, hnk, HZ, hp0, hp1⟩ := hrel
    have hXr : X.heap.size ≤ wr.heap.size := HB.out.size
    by_cases hlt : k < L.length
    · obtain ⟨b, off, rfl, e0, hbr⟩ := (HL.out.later HB.out).cell k hlt
      have HS1 := commons_take p.defs ⟨[], [], pos⟩ L k hlt
      rw [← HS.out] at HS1
      have hkl : (k : Int) < (L.length : Int) := by omega
      obtain ⟨cp0, cp1⟩ := HQ.out wr HB.out
      have hnm : (L.getD k str0).size ≤ maxLen := HL.out.2 _ (getD_mem L str0 k hlt)
      have hco := HCO.out (L.getD k str0)
      have KF' : Hid (Calls Try.prog 52 #[.agg #[.slice a1 p.frags.length c1, .slice a2 p.defs.length c2], .string (L.getD k str0)] wr fun e w' => e = .returned (.tuple #[.agg (dfnArr (M.find p.defs (L.getD k str0)).1), .int .i64 (M.find p.defs (L.getD k str0)).2]) ∧ Below wr.heap.size wr w') := KF.out _ wr (HX.out.trans (HB.out.mono hwX))
      clear HS
      unfold M.comStep at HS1
      generalize L.getD k str0 = s at *
      generalize M.find p.defs s = fr at *
      obtain ⟨⟨nm, kd, fg, ps, sz, al⟩, er⟩ := fr
      simp only [dfnArr] at KF'
      simp only at hco
      obtain ⟨a4, n4, c4, rfl⟩ := own_form hoN
      obtain ⟨a5, n5, c5, rfl⟩ := own_form hoC
      go_upto_region 6 with (go_at_call 52; refine KF'.out.mono ?_; rintro e w5 ⟨rfl, hb5⟩)
      have HBY : Hid (Below wr.heap.size wr (w5.alloc (.cells #[.string nm, .int .i64 kd, .int .i64 fg, .int .i64 ps, .int .i64 sz, .int .i64 al] 69))) := hb5.alloc hb5.size _
      have xd := heap_alloc_new w5 (.cells #[.string nm, .int .i64 kd, .int .i64 fg, .int .i64 ps, .int .i64 sz, .int .i64 al] 69)
      clear KF' hb5 e0 cp0 cp1
      generalize w5.alloc (.cells #[.string nm, .int .i64 kd, .int .i64 fg, .int .i64 ps, .int .i64 sz, .int .i64 al] 69) = Y at *
      generalize w5.heap.size = n8 at *
      have hoNY := hoN.kept (grown_of_below HBY.out none) own_self
      have hoCY := hoC.kept (grown_of_below HBY.out none) own_self
      have HB5 : Hid (Below X.heap.size X Y) := HB.out.trans (HBY.out.mono hXr)
      have hXY : X.heap.size ≤ Y.heap.size := HB5.out.size
      have d1 : Y.cell? ⟨n8, 1, none⟩ = some (.int .i64 kd) := cellB xd 1
      have d4 : Y.cell? ⟨n8, 4, none⟩ = some (.int .i64 sz) := cellB xd 4
      have d5 : Y.cell? ⟨n8, 5, none⟩ = some (.int .i64 al) := cellB xd 5
      have hlY : n8 < Y.heap.size := (Array.getElem?_eq_some_iff.1 xd).1
      clear HBY HB hoN hoC
      by_cases her : er = 0
      · by_cases hkd : kd = 3
        · have hc := hco her hkd
          have HS2 : Hid ((L.take (k + 1)).foldl (M.comStep p.defs) ⟨[], [], pos⟩ = ⟨st.names ++ [s], st.at_ ++ [M.next st.pos al], M.next st.pos al + sz⟩) := by rw [Hid]; unfold M.comStep; rw [HS1, if_pos ⟨her, hkd⟩]
          have hnb := M.next_bounds hp0 hc.align
          have hsm := hc.small
          have hs0 : 0 ≤ sz := hc.size0
          have hs64 : sz ≤ 64 := hc.size64
          have KN : Hid (Calls Try.prog 64 #[.int .i64 st.pos, .int .i64 al] Y fun e w' => e = .returned (.int .i64 (M.next st.pos al)) ∧ Y = w') := (next_any st.pos al hp0 (by omega) hc.align Y).mono fun e w' ⟨h1, h2⟩ => ⟨h1, h2.symm⟩
          have hn0 : (er != 0) = false := by simpa using her
          have hn3 : (kd != 3) = false := by simpa using hkd
          simp only at hnb hsm
          clear HS1 her hkd hco
          go_upto_region 8 with (go_at_call 64; refine KN.out.mono ?_; rintro e w' ⟨rfl, rfl⟩)
          clear KN
          have hnews : ∀ j u, (#[.string s] : Array Value).toList[j]? = some u → (Y.alloc (.cells #[.string s] 9)).cell? ((⟨Y.heap.size, 0, none⟩ : Addr).add j) = some u := World.news_of_block (heap_alloc_new Y _)
          go_wp2_with (at_builtin; refine wpList_append_own _ rfl _ _ 35 rfl X.heap.size 9 i0 (.string ⟨#[]⟩) 1 16 Try.underlying35 hi hz0 hz1 hz2 rfl (by decide) _ _ _ rfl (hoNY.alloc _) ⟨Y.heap.size, 0, none⟩ 1 1 (#[.string s] : Array Value).toList rfl rfl hnews (fun u hu => by simp at hu; subst hu; rfl) (by unfold maxLen; omega) (by omega) (by simp; omega) ?_; intro v3 w3 ho3 hg3 hnil3; refine Hid.out ?_)
          have hoC3 := (hoCY.alloc (.cells #[.string s] 9)).kept hg3 (own_apart hoCY hoNY (by decide))
          have xd3 := block_kept (hoNY.alloc _) hg3 ((heap_alloc_old _ _ hlY).trans xd) (by decide)
          have HB3 : Hid (Below X.heap.size X w3) := (HB5.out.alloc hXY _).grown hg3 (by simp; omega) (fun k hk => (hoNY.lt k hk).1)
          have hX3 : X.heap.size ≤ w3.heap.size := HB3.out.size
          have hl3 : n8 < w3.heap.size := (Array.getElem?_eq_some_iff.1 xd3).1
          obtain ⟨a6, n6, c6, rfl⟩ := own_form ho3
          clear hnews hoNY hoCY xd hg3 hnil3 HB5 d1 d4 d5
          have hnews : ∀ j u, (#[.int .i64 (M.next st.pos al)] : Array Value).toList[j]? = some u → (w3.alloc (.cells #[.int .i64 (M.next st.pos al)] 3)).cell? ((⟨w3.heap.size, 0, none⟩ : Addr).add j) = some u := World.news_of_block (heap_alloc_new w3 _)
          refine Lib.hid ?_
          go_wp2_with (at_builtin; refine wpList_append_own _ rfl _ _ 52 rfl X.heap.size 3 i1 (.int .i64 0) 1 8 Try.underlying52 hi1 hy0 hy1 hy2 rfl (by decide) _ _ _ rfl (hoC3.alloc _) ⟨w3.heap.size, 0, none⟩ 1 1 (#[.int .i64 (M.next st.pos al)] : Array Value).toList rfl rfl hnews (fun u hu => by simp at hu; subst hu; rfl) (by unfold maxLen; omega) (by omega) (by simp; omega) ?_; intro v4 w4 ho4 hg4 hnil4; refine Hid.out ?_)
          have hoN4 := (ho3.alloc (.cells #[.int .i64 (M.next st.pos al)] 3)).kept hg4 (own_apart ho3 hoC3 (by decide))
          have xd4 := block_kept (hoC3.alloc _) hg4 ((heap_alloc_old _ _ hl3).trans xd3) (by decide)
          have HB4 : Hid (Below X.heap.size X w4) := (HB3.out.alloc hX3 _).grown hg4 (by simp; omega) (fun k hk => (hoC3.lt k hk).1)
          have g4 : w4.cell? ⟨n8, 4, none⟩ = some (.int .i64 sz) := cellB xd4 4
          have hl4 : n8 < w4.heap.size := (Array.getElem?_eq_some_iff.1 xd4).1
          have hoN5 : w4.ownsRow X.heap.size 9 1 (.slice a6 n6 c6) (st.names ++ [s]).length ((st.names ++ [s]).map Value.string) := by rw [List.length_append, List.map_append]; exact hoN4
          have hoC5 : w4.ownsRow X.heap.size 3 1 v4 (st.at_ ++ [M.next st.pos al]).length ((st.at_ ++ [M.next st.pos al]).map (Value.int .i64)) := by rw [List.length_append, List.map_append]; exact ho4
          obtain ⟨a7, n7, c7, rfl⟩ := own_form ho4
          have HZ1 : Hid (∀ x ∈ st.names ++ [s], x.size ≤ maxLen) := fun x hx => by
            rcases List.mem_append.1 hx with h | h
            · exact HZ.out x h
            · rw [List.mem_singleton.1 h]; exact hnm
          clear hnews hoC3 ho3 hg4 hnil4 xd3 xd4 hoN4 ho4 HB3
          refine Lib.hid ?_
          go_wp2
          go_roundw
          case rel => exact ⟨k + 1, ⟨st.names ++ [s], st.at_ ++ [M.next st.pos al], M.next st.pos al + sz⟩, by omega, by go_num, rfl, HS2.out.symm, hoN5, hoC5, HB4, by simp; omega, by simp; omega, HZ1, by simp only; omega, by simp only; omega⟩
          case measure => simp [intOf]; omega
        · have HS2 : Hid (st = (L.take (k + 1)).foldl (M.comStep p.defs) ⟨[], [], pos⟩) := by rw [Hid]; unfold M.comStep; rw [HS1, if_neg (fun h => hkd h.2)]
          have hn0 : (er != 0) = false := by simpa using her
          have hn3 : (kd != 3) = true := by simpa using hkd
          clear HS1 her hkd hco
          go_wp2
          go_roundw
          case rel => exact ⟨k + 1, st, by omega, by go_num, rfl, HS2, hoNY, hoCY, HB5, hnc, by omega, HZ, hp0, by omega⟩
          case measure => simp [intOf]; omega
      · have HS2 : Hid (st = (L.take (k + 1)).foldl (M.comStep p.defs) ⟨[], [], pos⟩) := by rw [Hid]; unfold M.comStep; rw [HS1, if_neg (fun h => her h.1)]
        have hn0 : (er != 0) = true := by simpa using her
        clear HS1 her hco
        go_wp2
        go_roundw
        case rel => exact ⟨k + 1, st, by omega, by go_num, rfl, HS2, hoNY, hoCY, HB5, hnc, by omega, HZ, hp0, by omega⟩
        case measure => simp [intOf]; omega
    · have hkl : k = L.length := by omega
      subst hkl
      have HS1 := HS.out
      rw [List.take_length] at HS1
      have HE : Hid (M.commons p pos = st) := by rw [Hid, HW.out, HS1]
      clear HS HS1
      obtain ⟨a4, n4, c4, rfl⟩ := own_form hoN
      obtain ⟨a5, n5, c5, rfl⟩ := own_form hoC
      have HEnd : Hid (Below w.heap.size w wr) := HX.out.trans (HB.out.mono hwX)
      go_wp2
      refine bodyPost_ret (v := .tuple #[.slice a4 n4 c4, .slice a5 n5 c5, .int .i64 st.pos]) (by simp [results, Try.results66, go_sem]) rfl ?_
      rw [HE.out]
      exact ⟨HEnd.out, _, _, rfl, row_base hoN hwX, row_base hoC hwX, HZ.out, hnc, by omega, hp0, by omega⟩

end Go.Proofs.Ytebhbhbhcoijpaa
