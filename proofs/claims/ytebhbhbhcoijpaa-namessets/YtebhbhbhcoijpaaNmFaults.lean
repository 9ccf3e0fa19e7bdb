/-
  The contract of names.Faults.
-/
import Derived.Test.YtebhbhbhcoijpaaNmTop
import Derived.Deep.RegionHeld3
namespace Go.Proofs.Ytebhbhbhcoijpaa
open Go.RowKit
set_option linter.unusedVariables false

def encFlt (x : Int × ByteArray) : List Value := [.int .i64 x.1, .string x.2, .int .i64 0, .int .i64 0]

theorem step_append_src {P : Program} {w : World} {ops : Array Oper} {o : Oper} {a : Act} {K : Act → World → Prop} {Q : Exit → Act → World → Prop} {E : Prop} (hgd : o.guard = none) (s x : Operand) (t : TypeId)
    (ho : o.op = .call { callee := .builtin .append, args := #[s, x], argTypes := #[t, t] })
    (base : Nat) (e : TypeId) (i : TypeInfo) (z : Value) (size bytes : Nat) (ht : P.underlying t = some (.slice e)) (hi : P.info? e = some i) (hz : i.zero = some z)
    (hsize : i.size = size) (hby : i.bytes = bytes) (hzs : z.cells.size = size) (hsz : 0 < size)
    (v : Value) (n : Nat) (xs : List Value) (hs : a.eval s = v) (hown : w.ownsRow base e size v n xs)
    (u : Value) (m : Nat) (news : List Value) (hx : a.eval x = u) (hsrc : Src w u m news) (hl : news.length = m * size) (h1 : ∀ u ∈ news, u.oneCell' = true)
    (h63 : n + m ≤ maxLen) (hbytes : (n + m) * bytes ≤ 140737488355328) (hbase : base ≤ w.heap.size)
    (h : ∀ v' w', w'.ownsRow base e size v' (n + m) (xs ++ news) → w.grownBy w' v.ownBlock → K (a.put o.dst v') w') :
    if Region.wanted o (yielded ops a.tmps) = true then Oper.wp P o a w K Q else E := by
  have hw : Region.wanted o (yielded ops a.tmps) = true := by simp [Region.wanted, hgd]
  rw [if_pos hw]
  exact wp_append_src w s x t ho base e i z size bytes ht hi hz hsize hby hzs hsz v n xs hs hown u m news hx hsrc hl h1 h63 hbytes hbase h

def faultsOfP (p : M.Prt) : List (Int × ByteArray) := if M.checkPart p = 0 then M.faults p else []

theorem faults_take (ds : List M.Dfn) (L : List ByteArray) (k : Nat) (h : k < L.length) : (L.take (k + 1)).filterMap (M.faultAt ds) = (L.take k).filterMap (M.faultAt ds) ++ (M.faultAt ds (L.getD k str0)).toList := by
  rw [List.take_succ_eq_append_getElem h, List.filterMap_append, List.getD_eq_getElem?_getD, List.getElem?_eq_getElem h]
  simp only [Option.getD_some, List.filterMap_cons, List.filterMap_nil]
  cases M.faultAt ds L[k] <;> rfl

theorem wantedOf_le (rs : List M.Rel) : (M.wantedOf rs).length ≤ rs.length := by
  unfold M.wantedOf
  rw [List.length_map]
  exact List.length_filter_le _ _

theorem wantedNames_le : ∀ fs : List M.Frg, (∀ f ∈ fs, f.rels.length ≤ 8) → (M.wantedNames fs).length ≤ 8 * fs.length
  | [], _ => by simp [M.wantedNames]
  | f :: fs, h => by
    have ih := wantedNames_le fs (fun g hg => h g (List.mem_cons_of_mem _ hg))
    have h1 := wantedOf_le f.rels
    have h2 := h f (by simp)
    show (M.wantedOf f.rels ++ M.wantedNames fs).length ≤ 8 * (fs.length + 1)
    rw [List.length_append]
    omega

set_option maxHeartbeats 8000000 in
set_option maxRecDepth 100000 in
theorem faultsP_any (p : M.Prt) (a1 a2 : Option Addr) (c1 c2 : Nat) (w : World) (hf : FragsAt w (.slice a1 p.frags.length c1) p.frags) (hd : DefsAt w (.slice a2 p.defs.length c2) p.defs) :
    Calls Try.prog 53 #[.agg #[.slice a1 p.frags.length c1, .slice a2 p.defs.length c2]] w fun e w' => Below w.heap.size w w' ∧ ∃ v, e = .returned (.tuple #[v, .int .i64 (M.checkPart p)]) ∧ w'.ownsRow w.heap.size 96 4 v (faultsOfP p).length ((faultsOfP p).flatMap encFlt) := by
  have hA : Hid (Below w.heap.size w (w.alloc (.cells #[.slice a1 p.frags.length c1, .slice a2 p.defs.length c2] 25))) := (Below.refl _ _).alloc (Nat.le_refl _) _
  have KC : Hid (Calls Try.prog 13 #[.agg #[.slice a1 p.frags.length c1, .slice a2 p.defs.length c2]] (w.alloc (.cells #[.slice a1 p.frags.length c1, .slice a2 p.defs.length c2] 25)) fun e w' => e = .returned (.int .i64 (M.checkPart p)) ∧ Below (w.alloc (.cells #[.slice a1 p.frags.length c1, .slice a2 p.defs.length c2] 25)).heap.size (w.alloc (.cells #[.slice a1 p.frags.length c1, .slice a2 p.defs.length c2] 25)) w') := check_any p.frags p.defs _ _ _ _ _ (hf.later hA.out) (hd.later hA.out)
  have Q0 : Hid ((w.alloc (.cells #[.slice a1 p.frags.length c1, .slice a2 p.defs.length c2] 25)).heap[w.heap.size]? = some (.cells #[.slice a1 p.frags.length c1, .slice a2 p.defs.length c2] 25 (0, 0))) := heap_alloc_new w (.cells #[.slice a1 p.frags.length c1, .slice a2 p.defs.length c2] 25)
  by_cases hck : M.checkPart p = 0
  · have HW : Hid (faultsOfP p = (M.rising (M.rising (M.wantedNames p.frags) ++ M.rising (M.definedNames p.defs))).filterMap (M.faultAt p.defs)) := if_pos hck
    obtain ⟨i0, hi, hz0, hz1, hz2⟩ := info_parts (P := Try.prog) (e := 9) (z := .string ⟨#[]⟩) (size := 1) (bytes := 16) (by kernel_rfl)
    obtain ⟨i1, hi1, hy0, hy1, hy2⟩ := info_parts (P := Try.prog) (e := 96) (z := .agg #[.int .i64 0, .string ⟨#[]⟩, .int .i64 0, .int .i64 0]) (size := 4) (bytes := 40) (by kernel_rfl)
    have hok := (M.ok_iff p).1 hck
    have hn := hok.nf
    have hnd := hok.nd
    have h8 := ok_rels hok
    have lW : (M.rising (M.wantedNames p.frags)).length ≤ 480 := by
      have h1 := rising_le (M.wantedNames p.frags)
      have h2 := wantedNames_le p.frags h8
      omega
    have lD : (M.rising (M.definedNames p.defs)).length ≤ 60 := by
      have h1 := rising_le (M.definedNames p.defs)
      have h2 : (M.definedNames p.defs).length = p.defs.length := by simp [M.definedNames]
      omega
    rw [hck] at KC ⊢
    clear hck hok
    go_enter Try.func53, Try.ntmps53
    go_upto_region 5 with (go_at_call 13; refine KC.out.mono ?_; rintro e X ⟨rfl, hx1⟩)
    have HX : Hid (Below w.heap.size w X) := hA.out.trans (hx1.mono hA.out.size)
    have q0 := (hx1.block _ (by simp)).trans Q0.out
    clear hx1 KC hA Q0
    have hl0 : w.heap.size < X.heap.size := (Array.getElem?_eq_some_iff.1 q0).1
    have HS : Hid (∀ W, Below X.heap.size X W → (W.cell? ⟨w.heap.size, 0, none⟩ = some (.slice a1 p.frags.length c1) ∧ W.cell? ⟨w.heap.size, 1, none⟩ = some (.slice a2 p.defs.length c2))) := fun W hW => by
      have y := (hW.block _ hl0).trans q0
      exact ⟨cellB y 0, cellB y 1⟩
    have KW : Hid (∀ W, Below X.heap.size X W → Calls Try.prog 55 #[.slice a1 p.frags.length c1] W fun e w' => Below W.heap.size W w' ∧ ∃ v, e = .returned v ∧ w'.ownsRow X.heap.size 9 1 v (M.rising (M.wantedNames p.frags)).length ((M.rising (M.wantedNames p.frags)).map Value.string) ∧ ∀ s ∈ M.rising (M.wantedNames p.frags), s.size ≤ maxLen) := fun W hW =>
      (wanted_any p.frags a1 c1 W ((hf.later HX.out).later hW) hn h8).mono fun e w' ⟨h1, v, h2, h3, h4⟩ => ⟨h1, v, h2, row_base h3 hW.size, h4⟩
    have KD : Hid (∀ W, Below X.heap.size X W → Calls Try.prog 56 #[.slice a2 p.defs.length c2] W fun e w' => Below W.heap.size W w' ∧ ∃ v, e = .returned v ∧ w'.ownsRow X.heap.size 9 1 v (M.rising (M.definedNames p.defs)).length ((M.rising (M.definedNames p.defs)).map Value.string) ∧ ∀ s ∈ M.rising (M.definedNames p.defs), s.size ≤ maxLen) := fun W hW =>
      (defined_any p.defs a2 c2 W ((hd.later HX.out).later hW) hnd).mono fun e w' ⟨h1, v, h2, h3, h4⟩ => ⟨h1, v, h2, row_base h3 hW.size, h4⟩
    have KF : Hid (∀ s W, Below w.heap.size w W → Calls Try.prog 89 #[.slice a2 p.defs.length c2, .string s] W fun e w' => e = .returned (.tuple #[.agg (dfnArr (M.find p.defs s).1), .int .i64 (M.find p.defs s).2]) ∧ Below W.heap.size W w') := fun s W hW => find_any p.defs s a2 c2 W (hd.later hW) hnd
    have hA0 : Below X.heap.size X X.drew := (Below.refl _ _).drew
    clear hf hd h8
    generalize M.rising (M.wantedNames p.frags) = LW at *
    generalize M.rising (M.definedNames p.defs) = LD at *
    go_region_held3 (fun w' => w'.cell? ⟨w.heap.size, 0, none⟩ = some (.slice a1 p.frags.length c1) ∧ w'.cell? ⟨w.heap.size, 1, none⟩ = some (.slice a2 p.defs.length c2)) (first | exact HS.out _ hA0 | exact HS.out _ hX4 | exact HS.out _ hX3 | exact HS.out _ hX2 | exact HS.out _ hX1) (first | (go_at_call 55; refine (KW.out _ hA0).mono ?_; rintro e w1 ⟨hb1, v1, rfl, ho1, hs1⟩; have hX1 : Below X.heap.size X w1 := hA0.trans (hb1.mono hA0.size); obtain ⟨x1, y1, rfl⟩ := own_len ho1) | (go_at_call 56; refine (KD.out _ hX1).mono ?_; rintro e w2 ⟨hb2, v2, rfl, ho2, hs2⟩; have hX2 : Below X.heap.size X w2 := hX1.trans (hb2.mono hX1.size); have ho1' := ho1.kept (grown_of_below hb2 none) own_self; obtain ⟨x2, y2, rfl⟩ := own_len ho2) | (refine step_append_src (by rfl) _ _ _ (by rfl) X.heap.size 9 i0 (.string ⟨#[]⟩) 1 16 Try.underlying35 hi hz0 hz1 hz2 rfl (by decide) (.slice x1 LW.length y1) LW.length (LW.map Value.string) (by rfl) ho1' (.slice x2 LD.length y2) LD.length (LD.map Value.string) (by rfl) (row_src ho2) (by simp) (fun u hu => by obtain ⟨b, _, rfl⟩ := List.mem_map.1 hu; rfl) (by unfold maxLen; omega) (by omega) hX2.size ?_; intro v3 w3 ho3 hg3; have hX3 : Below X.heap.size X w3 := grown_below hX2 hX2.size ho1' hg3; obtain ⟨x3, y3, rfl⟩ := own_len ho3) | (go_at_call 90; refine (rising_any (LW ++ LD) X.heap.size _ w3 (by rw [List.length_append, List.map_append]; exact ho3) (by rw [List.length_append]; omega)).mono ?_; rintro e w4 ⟨hg4, v4, rfl, ho4, _⟩; have hX4 : Below X.heap.size X w4 := grown_below hX3 hX3.size ho3 hg4; obtain ⟨x4, y4, rfl⟩ := own_len ho4))
    have HB4 : Hid (Below w.heap.size w w4) := HX.out.trans (hX4.mono HX.out.size)
    have q4 := (hX4.block _ hl0).trans q0
    have hoL := row_base ho4 HX.out.size
    have HSz : Hid (∀ s ∈ M.rising (LW ++ LD), s.size ≤ maxLen) := rising_size (fun s hs => by
      rcases List.mem_append.1 hs with h | h
      · exact hs1 s h
      · exact hs2 s h)
    have lL : (M.rising (LW ++ LD)).length ≤ 540 := by
      have := rising_le (LW ++ LD)
      rw [List.length_append] at this
      omega
    clear hX1 hX2 hX3 hX4 hg3 hg4 ho1 ho1' ho2 ho3 ho4 hb1 hb2 hs1 hs2 KW KD HS hA0 q0 HX
    generalize M.rising (LW ++ LD) = L at *
    go_wp2_with fail
    go_loopw [5, 24] (fun s5 s24 wr => ∃ (k : Nat) (fl : List (Int × ByteArray)), k ≤ L.length ∧ s24 = .int .i64 k ∧ Hid (fl = (L.take k).filterMap (M.faultAt p.defs)) ∧ fl.length ≤ k ∧ wr.heap[w.heap.size]? = some (.cells #[.slice a1 p.frags.length c1, .slice a2 p.defs.length c2] 25 (0, 0)) ∧ wr.ownsRow w.heap.size 9 1 (.slice x4 L.length y4) L.length (L.map Value.string) ∧ wr.ownsRow w.heap.size 96 4 s5 fl.length (fl.flatMap encFlt) ∧ Hid (Below w.heap.size w wr)) (fun _ s24 _ => L.length - (intOf s24).toNat)
    case atStart => exact ⟨0, [], Nat.zero_le _, rfl, rfl, Nat.le_refl _, q4, hoL, World.ownsRow_nil _ _ _ _, HB4.out⟩
    case round =>
      obtain ⟨k, fl, hk, rfl, HL, hlk, q1, hoS, hown, HB⟩ := hrel
      clear q4 hoL HB4
      have hw0 : w.heap.size ≤ wr.heap.size := HB.out.size
      have hl1 : w.heap.size < wr.heap.size := (Array.getElem?_eq_some_iff.1 q1).1
      by_cases hlt : k < L.length
      · obtain ⟨b, off, rfl, e0, hbr⟩ := (row_strs hoS HSz.out).cell k hlt
        have HL1 := faults_take p.defs L k hlt
        rw [← HL.out] at HL1
        have hkl : (k : Int) < (L.length : Int) := by omega
        have cp : wr.cell? ⟨w.heap.size, 1, none⟩ = some (.slice a2 p.defs.length c2) := cellB q1 1
        have KF' : Hid (Calls Try.prog 89 #[.slice a2 p.defs.length c2, .string (L.getD k str0)] wr fun e w' => e = .returned (.tuple #[.agg (dfnArr (M.find p.defs (L.getD k str0)).1), .int .i64 (M.find p.defs (L.getD k str0)).2]) ∧ Below wr.heap.size wr w') := KF.out _ wr HB.out
        unfold M.faultAt at HL1
        clear HL
        generalize L.getD k str0 = s at *
        generalize M.find p.defs s = fr at *
        obtain ⟨⟨nm, kd, fg, pos, sz, al⟩, er⟩ := fr
        simp only [dfnArr] at KF' HL1
        obtain ⟨a5, n5, c5, rfl⟩ := own_form hown
        go_upto_region 9 with (go_at_call 89; refine KF'.out.mono ?_; rintro e w5 ⟨rfl, hb5⟩)
        have HBY : Hid (Below wr.heap.size wr (w5.alloc (.cells #[.string nm, .int .i64 kd, .int .i64 fg, .int .i64 pos, .int .i64 sz, .int .i64 al] 69))) := hb5.alloc hb5.size _
        clear KF' hb5 e0 cp
        generalize w5.alloc (.cells #[.string nm, .int .i64 kd, .int .i64 fg, .int .i64 pos, .int .i64 sz, .int .i64 al] 69) = Y at *
        generalize w5.heap.size = n8 at *
        have y1 := (HBY.out.block _ hl1).trans q1
        have hoY := hoS.kept (grown_of_below HBY.out none) own_self
        have hownY := hown.kept (grown_of_below HBY.out none) own_self
        have HB5 : Hid (Below w.heap.size w Y) := HB.out.trans (HBY.out.mono hw0)
        have hwY : w.heap.size ≤ Y.heap.size := HB5.out.size
        clear HBY HB q1 hoS hown
        by_cases her : er = 0
        · rw [if_pos her] at HL1
          subst her
          have HL2 : Hid (fl = (L.take (k + 1)).filterMap fun s => if (M.find p.defs s).2 = 0 then none else some ((M.find p.defs s).2, s)) := by rw [Hid, HL1]; simp
          clear HL1
          go_wp2
          go_roundw
          case rel => exact ⟨k + 1, fl, by omega, by go_num, HL2, by omega, y1, hoY, hownY, HB5⟩
          case measure => simp [intOf]; omega
        · rw [if_neg her] at HL1
          have hne : (er != 0) = true := by simpa using her
          have HL2 : Hid (fl ++ [(er, s)] = (L.take (k + 1)).filterMap fun s => if (M.find p.defs s).2 = 0 then none else some ((M.find p.defs s).2, s)) := by rw [Hid, HL1]; simp
          clear HL1 her
          have hnews : ∀ j u, (#[.int .i64 er, .string s, .int .i64 0, .int .i64 0] : Array Value).toList[j]? = some u → (Y.alloc (.cells #[.int .i64 er, .string s, .int .i64 0, .int .i64 0] 96)).cell? ((⟨Y.heap.size, 0, none⟩ : Addr).add j) = some u := World.news_of_block (heap_alloc_new Y _)
          have HE : Hid (∀ v' w3, (Y.alloc (.cells #[.int .i64 er, .string s, .int .i64 0, .int .i64 0] 96)).grownBy w3 (Value.slice a5 n5 c5).ownBlock → w3.ownsRow w.heap.size 96 4 v' (fl.length + 1) (fl.flatMap encFlt ++ (#[.int .i64 er, .string s, .int .i64 0, .int .i64 0] : Array Value).toList) →
              w3.heap[w.heap.size]? = some (.cells #[.slice a1 p.frags.length c1, .slice a2 p.defs.length c2] 25 (0, 0)) ∧ w3.ownsRow w.heap.size 9 1 (.slice (some ⟨b, off, none⟩) L.length y4) L.length (L.map Value.string) ∧ w3.ownsRow w.heap.size 96 4 v' (fl ++ [(er, s)]).length ((fl ++ [(er, s)]).flatMap encFlt) ∧ Below w.heap.size w w3) := fun v' w3 hg ho =>
            ⟨block_kept (hownY.alloc _) hg ((heap_alloc_old _ _ (Array.getElem?_eq_some_iff.1 y1).1).trans y1) (by decide), (hoY.alloc _).kept hg (own_apart hoY hownY (by decide)), by rw [List.length_append, List.flatMap_append]; exact ho, (HB5.out.alloc hwY _).grown hg (by simp; omega) (fun k hk => (hownY.lt k hk).1)⟩
          clear y1 hoY HB5
          go_wp2_with (at_builtin; refine wpList_append_own _ rfl _ _ 91 rfl w.heap.size 96 i1 (.agg #[.int .i64 0, .string ⟨#[]⟩, .int .i64 0, .int .i64 0]) 4 40 Try.underlying91 hi1 hy0 hy1 hy2 rfl (by decide) _ _ _ rfl (hownY.alloc _) ⟨Y.heap.size, 0, none⟩ 1 1 (#[.int .i64 er, .string s, .int .i64 0, .int .i64 0] : Array Value).toList rfl rfl hnews (fun u hu => by simp at hu; rcases hu with rfl | rfl | rfl | rfl <;> rfl) (by unfold maxLen; omega) (by omega) (by simp; omega) ?_; intro v' w3 hown' hgrow3 hnil3)
          have HE' := HE.out _ _ hgrow3 hown'
          go_roundw
          case rel => exact ⟨k + 1, fl ++ [(er, s)], by omega, by go_num, HL2, by simp; omega, HE'.1, HE'.2.1, HE'.2.2.1, HE'.2.2.2⟩
          case measure => simp [intOf]; omega
      · have hkl : k = L.length := by omega
        have HL2 : Hid (fl = faultsOfP p) := by rw [Hid, HW.out, HL.out, hkl, List.take_length]
        clear HL
        subst hkl
        obtain ⟨a5, n5, c5, rfl⟩ := own_form hown
        go_wp2
        go_ret2
        exact ⟨HB.out, _, rfl, by rw [← HL2.out]; exact hown⟩
  · have HW : Hid (faultsOfP p = []) := if_neg hck
    have hne : (M.checkPart p != 0) = true := by simpa using hck
    clear hck
    generalize M.checkPart p = er at *
    go_enter Try.func53, Try.ntmps53
    go_wp2_with (go_at_call 13; refine KC.out.mono ?_; rintro e x1 ⟨rfl, hx1⟩)
    go_ret2
    exact ⟨hA.out.trans (hx1.mono hA.out.size), _, rfl, by rw [HW.out]; exact World.ownsRow_nil _ _ _ _⟩

end Go.Proofs.Ytebhbhbhcoijpaa
