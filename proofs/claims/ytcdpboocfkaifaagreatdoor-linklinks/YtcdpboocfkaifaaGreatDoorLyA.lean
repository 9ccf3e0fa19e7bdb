/-
  The map of texts that stand: its keys, what it holds. The contract of layout.next. The contract of layout.layFrags: a section's fragments. The walk of layout.layFrags.
-/
import Derived.Test.YtcdpboocfkaifaaGreatDoorMathB
import Derived.Test.YtcdpboocfkaifaaGreatDoorMemA
import Derived.Test.YtcdpboocfkaifaaGreatDoorTopA
import Derived.Maps.OwnSet
import Derived.Maps.Views
import Derived.DeepKeys4
import Derived.Laws.BytesArg
import Derived.Test.YtcdpboocfkaifaaGreatDoorRowsX
import Derived.Test.YtcdpboocfkaifaaGreatDoorMemB
import Derived.Deep.RegionHeld3
import Derived.Shelf.Bytes.SlSmallAll

namespace Go.Proofs.YtcdpboocfkaifaaGreatDoor
open Go Go.RowKit Go.Maps
set_option linter.unusedVariables false

theorem lyLaid : laidOutB Tryz.prog = true := by kernel_rfl
theorem rowText : (129 : TypeId) < Tryz.prog.types.size := of_decide_eq_true (by kernel_rfl)
theorem keyText : Keyed Tryz.prog 129 := Keyed.of_law (deep_law_laid lyLaid (m := 3) (by omega) rowText (by kernel_rfl) (by kernel_rfl))

/-- a text, as a key -/
def textV (bs : List Int) (al : Int) : Value := .agg #[.string (strOfNums bs), .int .i64 al]
def textL (bs : List Int) (al : Int) : Lit := .string (keyBytes [.string (strOfNums bs).data.toList, .int .i64 al])

theorem typeText : Tryz.prog.keyType 129 = true := by kernel_rfl
theorem cellsText : Tryz.prog.cellsOf 129 = 2 := by kernel_rfl
theorem cellsStr : Tryz.prog.cellsOf 9 = 1 := by kernel_rfl
theorem cellsInt : Tryz.prog.cellsOf 3 = 1 := by kernel_rfl

theorem succ_of_lt {a n : Nat} (h : a < n) : ∃ m, n = m + 1 := ⟨n - 1, by omega⟩

theorem keyOf_text (bs : List Int) (al : Int) (hb : bs.length ≤ maxLen) (ha : (Lit.int .i64 al).wf = true) : keyOf Tryz.prog 129 (textV bs al) = some (textL bs al) := by
  have hs : (strOfNums bs).size ≤ maxLen := by rw [strOfNums_size]; exact hb
  obtain ⟨m, hm⟩ := succ_of_lt rowText
  unfold keyOf textV
  rw [Tryz.underlying129]
  simp only [typeText, Value.formed, Tryz.underlying129, cellsText, hm]
  simp [hs, ha, textL, Value.cells, Program.keyLits, Tryz.underlying129, cellsText, Tryz.underlying9, Tryz.underlying3, cellsStr, cellsInt]

theorem nums_inj : ∀ {a b : List Int}, (∀ x ∈ a, 0 ≤ x ∧ x < 256) → (∀ x ∈ b, 0 ≤ x ∧ x < 256) → (a.map fun n => UInt8.ofNat n.toNat) = (b.map fun n => UInt8.ofNat n.toNat) → a = b
  | [], [], _, _, _ => rfl
  | [], _ :: _, _, _, h => by cases h
  | _ :: _, [], _, _, h => by cases h
  | x :: a, y :: b, ha, hb, h => by
    simp only [List.map_cons, List.cons.injEq] at h
    have hx := ha x (List.mem_cons_self ..)
    have hy := hb y (List.mem_cons_self ..)
    have h1 : (UInt8.ofNat x.toNat).toNat = (UInt8.ofNat y.toNat).toNat := by rw [h.1]
    simp only [UInt8.toNat_ofNat'] at h1
    have : x = y := by omega
    rw [this, nums_inj (fun z hz => ha z (List.mem_cons_of_mem _ hz)) (fun z hz => hb z (List.mem_cons_of_mem _ hz)) h.2]

structure TextOk (bs : List Int) (al : Int) : Prop where
  len : bs.length ≤ 64
  byte : ∀ x ∈ bs, 0 ≤ x ∧ x < 256
  wf : (Lit.int .i64 al).wf = true

theorem TextOk.key {bs : List Int} {al : Int} (h : TextOk bs al) : keyOf Tryz.prog 129 (textV bs al) = some (textL bs al) := keyOf_text bs al (by have := h.len; unfold maxLen; omega) h.wf

theorem textL_inj {bs bs' : List Int} {al al' : Int} (h : TextOk bs al) (h' : TextOk bs' al') (e : textL bs al = textL bs' al') : bs = bs' ∧ al = al' := by
  have h1 := h.key
  rw [e] at h1
  have h2 := keyText.inj h1 h'.key
  unfold textV at h2
  simp only [Value.agg.injEq, Array.mk.injEq, List.cons.injEq, Value.string.injEq, Value.int.injEq, and_true, true_and] at h2
  refine ⟨nums_inj h.byte h'.byte ?_, h2.2⟩
  have := congrArg (fun s : ByteArray => s.data.toList) h2.1
  exact this

/-- the map holds the texts that stand -/
structure SeenAt (D : DataW Unit) (seen : M.Seen) : Prop where
  isMap : IsMap D
  has_ : ∀ bs al, TextOk bs al → has D (textL bs al) = (M.look seen bs al).isSome
  at_ : ∀ bs al x, TextOk bs al → M.look seen bs al = some x → ∀ z, D.atKey (textL bs al) z = .lit (.int .i64 x)

theorem SeenAt.nil : SeenAt (.map []) [] := ⟨isMap_empty, fun _ _ _ => rfl, fun _ _ _ _ h => by cases h⟩

theorem SeenAt.put {D : DataW Unit} {seen : M.Seen} (h : SeenAt D seen) {bs : List Int} {al x : Int} (ht : TextOk bs al) : SeenAt (D.put (textL bs al) (.lit (.int .i64 x))) ((bs, al, x) :: seen) := by
  refine ⟨h.isMap.put _ _, fun bs' al' ht' => ?_, fun bs' al' y ht' hl z => ?_⟩
  · by_cases e : bs = bs' ∧ al = al'
    · obtain ⟨rfl, rfl⟩ := e
      rw [has_put_same h.isMap (by trivial)]
      simp [M.look]
    · rw [has_put_other (fun e' => e (by have := textL_inj ht' ht e'; exact ⟨this.1.symm, this.2.symm⟩)), h.has_ _ _ ht']
      simp [M.look, e]
  · by_cases e : bs = bs' ∧ al = al'
    · obtain ⟨rfl, rfl⟩ := e
      rw [atKey_put_same h.isMap (by trivial)]
      simp [M.look] at hl
      rw [hl]
    · rw [atKey_put_other (fun e' => e (by have := textL_inj ht' ht e'; exact ⟨this.1.symm, this.2.symm⟩))]
      simp [M.look, e] at hl
      exact h.at_ _ _ _ ht' hl z

theorem align_ne {d : Int} (hd : M.AlignOk d) : d ≠ 0 := by rcases hd with rfl | rfl | rfl | rfl | rfl <;> decide

/-- layout.next -/
theorem next_any (a d : Int) (h0 : 0 ≤ a) (h1 : a ≤ 1000000) (hd : M.AlignOk d) (w : World) :
    Calls Tryz.prog 39 #[.int .i64 a, .int .i64 d] w fun e w' => e = .returned (.int .i64 (M.next a d)) ∧ w' = w := by
  have hb := M.next_bounds h0 hd
  have hp := hd.pos
  have hq : (a + d - 1).tdiv d = (a + d - 1) / d := Int.tdiv_eq_ediv_of_nonneg (by omega)
  have hz := align_ne hd
  have hr : 0 ≤ (a + d - 1) / d ∧ (a + d - 1) / d ≤ a + d - 1 := by
    rcases hd with rfl | rfl | rfl | rfl | rfl <;> omega
  unfold M.next at hb ⊢
  generalize hQ : (a + d - 1) / d = q at *
  go_enter Tryz.func39, Tryz.ntmps39
  go_wp2
  go_ret
  exact ⟨rfl, rfl⟩

end Go.Proofs.YtcdpboocfkaifaaGreatDoor

namespace Go.Proofs.YtcdpboocfkaifaaGreatDoor
open Go Go.RowKit Go.Maps
set_option linter.unusedVariables false
attribute [local go_sem] lat_cell

theorem gb_new {w W W' : World} {r : Option Nat} {m : Nat} (h : w.grownBy W r) (h' : W.grownBy W' (some m)) (hm : w.heap.size ≤ m) : w.grownBy W' r :=
  ⟨h'.os.trans h.os, h'.tape.trans h.tape, h'.output.trans h.output, Nat.le_trans h.size h'.size, fun k hk hne => (h'.block k (Nat.lt_of_lt_of_le hk h.size) (by intro e; have := Option.some.inj e; omega)).trans (h.block k hk hne)⟩

theorem row_nomap {H : Type} {w : World} {B k n b m g c : Nat} {e kt : TypeId} {xs : List Value} {R : Value → Option (DataW H × List MemPlace)} {D : DataW H} (h : w.ownsRow B e k (.slice (some ⟨g, 0, none⟩) n c) n xs) (ho : w.ownsMap Tryz.prog kt R b m D) : g ≠ b := by
  rcases h.2 with ⟨h1, _⟩ | ⟨g', cap, cur, h1, _, hb, _⟩
  · cases h1
  · cases h1
    intro he
    subst he
    obtain ⟨es, clock, hm, _⟩ := ho
    rw [hm] at hb
    cases hb

theorem row_cell {w : World} {B n g c : Nat} {e : TypeId} {xs : List Int} (h : w.ownsRow B e 1 (.slice (some ⟨g, 0, none⟩) n c) n (xs.map (Value.int .i64))) (k : Nat) (hk : k < n) :
    w.cell? ⟨g, k, none⟩ = some (.int .i64 (xs.getD k 0)) ∧ w.frozen? ⟨g, k, none⟩ = false ∧ g < w.heap.size := by
  have hl := h.1
  rw [List.length_map, Nat.mul_one] at hl
  rcases h.2 with ⟨h1, _⟩ | ⟨g', cap, cur, h1, _, hb, hnc, hcm, hcs, htk⟩
  · cases h1
  · cases h1
    refine ⟨?_, frozenB hb k, (Array.getElem?_eq_some_iff.1 hb).1⟩
    rw [cellB hb k]
    have h2 : (cur.toList.take (n * 1))[k]? = (xs.map (Value.int .i64))[k]? := by rw [htk]
    rw [List.getElem?_take_of_lt (by omega), List.getElem?_map] at h2
    rw [← Array.getElem?_toList, h2, List.getElem?_eq_getElem (by omega : k < xs.length), List.getD_eq_getElem?_getD, List.getElem?_eq_getElem (by omega : k < xs.length)]
    rfl

/-- what a section's walk keeps in memory -/
structure LI (w W : World) (B g cap n mb k : Nat) (D : DataW Unit) (tl : List Int) : Prop where
  map : W.ownsMap Tryz.prog 129 (plainElem Tryz.prog 3) mb k D
  row : W.ownsRow B 3 1 (.slice (some ⟨g, 0, none⟩) n cap) n (tl.map (Value.int .i64))
  gb : w.grownBy W (some g)
  new : w.heap.size ≤ mb

theorem LI.later {w W W' : World} {B g cap n mb k : Nat} {D : DataW Unit} {tl : List Int} (h : LI w W B g cap n mb k D tl) (hb : Below W.heap.size W W') : LI w W' B g cap n mb k D tl :=
  ⟨h.map.kept (grown_of_below hb none) (by simp), h.row.kept (grown_of_below hb none) own_self, grown_trans h.gb (grown_of_below hb _), h.new⟩

theorem LI.more {w W : World} {B g cap n mb k : Nat} {D : DataW Unit} {tl : List Int} (h : LI w W B g cap n mb k D tl) : LI w W B g cap n mb (k + 1) D tl := ⟨h.map.mono (Nat.le_succ _), h.row, h.gb, h.new⟩

theorem LI.store {w W : World} {B g cap n mb k : Nat} {D : DataW Unit} {tl : List Int} (h : LI w W B g cap n mb k D tl) (j : Nat) (x : Int) : LI w (W.setCell ⟨g, j, none⟩ (.int .i64 x)) B g cap n mb k D (tl.set j x) := by
  have hs := h.row.stored j (.int .i64 x)
  refine ⟨h.map.kept hs.2 (fun e => row_nomap h.row h.map (Option.some.inj e).symm), ?_, grown_trans h.gb hs.2, h.new⟩
  rw [List.map_set]
  exact hs.1

theorem LI.look {w W : World} {B g cap n mb k : Nat} {D : DataW Unit} {tl : List Int} (h : LI w W B g cap n mb k D tl) {seen : M.Seen} (hs : SeenAt D seen) {bs : List Int} {al : Int} (ht : TextOk bs al) :
    ∃ c, (Instr.lookup 127 (.map (some mb)) (.agg #[.string (strOfNums bs), .int .i64 al]) true).run Tryz.prog W = .ok (.tuple #[.int .i64 c, .bool (M.look seen bs al).isSome]) W ∧ ∀ x, M.look seen bs al = some x → c = x := by
  obtain ⟨v, ps, hrun, hv⟩ := h.map.look_ok keyText Tryz.underlying127 (z := .int .i64 0) (by kernel_rfl) (plainElem_int Tryz.underlying3 (by decide)) ht.key
  obtain ⟨c, rfl, hc, _⟩ := plainElem_int_inv Tryz.underlying3 hv
  refine ⟨c, by rw [hs.has_ _ _ ht] at hrun; exact hrun, fun x hx => ?_⟩
  have h1 := congrArg Prod.fst hc
  simp only at h1
  rw [hs.at_ _ _ _ ht hx] at h1
  simp only [DataW.lit.injEq, Lit.int.injEq, true_and] at h1
  exact h1.symm

theorem LI.put {w W : World} {B g cap n mb k : Nat} {D : DataW Unit} {tl : List Int} (h : LI w W B g cap n mb k D tl) (hk : k < 1000) {bs : List Int} {al x : Int} (ht : TextOk bs al) (hx : (Lit.int .i64 x).wf = true) :
    ∃ W', (Instr.mapUpdate 127 (.map (some mb)) (.agg #[.string (strOfNums bs), .int .i64 al]) (.int .i64 x)).run Tryz.prog W = .ok () W' ∧ W.grownBy W' (some mb) ∧ LI w W' B g cap n mb (k + 1) (D.put (textL bs al) (.lit (.int .i64 x))) tl := by
  obtain ⟨W', hrun, hown, hg⟩ := h.map.update keyText Tryz.underlying127 (by unfold maxLen; omega) ht.key (plainElem_int (H := Unit) Tryz.underlying3 hx)
  exact ⟨W', hrun, hg, hown, h.row.kept hg (.inr (fun e => row_nomap h.row h.map (Option.some.inj e))), gb_new h.gb hg h.new, h.new⟩

theorem conv_bytes {W : World} {ab : Option Addr} {cb : Nat} {bs : List Int} (h : BytesAt W (.slice ab bs.length cb) bs) : (convert 53 9 (.slice ab bs.length cb)).run Tryz.prog W = .ok (.string (strOfNums bs)) W := by
  obtain ⟨a, c, e, hn, h1 | ⟨b, off, h1, h2⟩⟩ := h.1
  · cases e
    have : bs = [] := List.eq_nil_of_length_eq_zero (by omega)
    subst this
    exact run_convert_bytes_zero W _ 5 Tryz.underlying53 Tryz.underlying5 _ _ _ Tryz.underlying9
  · cases e
    subst h1
    refine run_convert_bytes_arg W _ 5 Tryz.underlying53 Tryz.underlying5 b off bs.length cb bs rfl (fun i hi => ?_) _ Tryz.underlying9
    have := h2 i 0 hi (by omega)
    simpa using this

end Go.Proofs.YtcdpboocfkaifaaGreatDoor

namespace Go.Proofs.YtcdpboocfkaifaaGreatDoor
open Go Go.RowKit Go.Maps
set_option linter.unusedVariables false
attribute [local go_sem] lat_cell

theorem take_snoc {α : Type} (l : List α) (d : α) (k : Nat) (h : k < l.length) : l.take (k + 1) = l.take k ++ [l.getD k d] := by
  rw [List.take_succ_eq_append_getElem h, List.getD_eq_getElem?_getD, List.getElem?_eq_getElem h]; rfl

theorem set_get (l : List Int) (k : Nat) (x : Int) (h : k < l.length) : (l.set k x).getD k 0 = x := by
  rw [List.getD_eq_getElem?_getD, List.getElem?_set_self h]; rfl

theorem wf_small {x : Int} (h0 : 0 ≤ x) (h1 : x ≤ 1000000) : (Lit.int .i64 x).wf = true := by
  show (decide ((IntKind.i64).min ≤ x) && decide (x ≤ (IntKind.i64).max)) = true
  rw [Bool.and_eq_true, decide_eq_true_eq, decide_eq_true_eq]
  exact ⟨Int.le_trans (by decide) h0, Int.le_trans h1 (by decide)⟩

set_option maxHeartbeats 8000000 in
set_option maxRecDepth 100000 in
theorem layFrags_any (sect pos : Int) (fs : List M.Frg) (tl : List Int) (B g cap : Nat) (aF : Option Addr) (cF : Nat) (w : World)
    (HF : Hid (∀ W, w.grownBy W (some g) → FragsAt W (.slice aF fs.length cF) fs))
    (hto : w.ownsRow B 3 1 (.slice (some ⟨g, 0, none⟩) fs.length cap) fs.length (tl.map (Value.int .i64)))
    (hn : fs.length ≤ 60) (HOk : Hid (∀ f ∈ fs, M.FrgOk f ∧ TextOk f.bytes f.align)) (h0 : 0 ≤ pos) (h1 : pos ≤ 100000) :
    Calls Tryz.prog 40 #[.slice (some ⟨g, 0, none⟩) fs.length cap, .slice aF fs.length cF, .int .i64 sect, .int .i64 pos] w fun e w' =>
      e = .returned (.int .i64 (M.layFrags sect tl fs pos).pos) ∧ w.grownBy w' (some g) ∧ w'.ownsRow B 3 1 (.slice (some ⟨g, 0, none⟩) fs.length cap) fs.length ((M.layFrags sect tl fs pos).adr.map (Value.int .i64)) := by
  have hmm := @run_makeMap Tryz.prog
  have hlen : tl.length = fs.length := by have := hto.1; rwa [List.length_map, Nat.mul_one] at this
  have HI0 : Hid (LI w (w.alloc (.map #[] 0)) B g cap fs.length w.heap.size 0 (.map []) tl) := ⟨World.ownsMap_made _ _ _ _, hto.kept (World.grownBy_alloc w _ none) own_self, World.grownBy_alloc w _ _, Nat.le_refl _⟩
  have HL : Hid (M.layFrags sect tl fs pos = M.layGo sect ⟨tl, pos, []⟩ 0 fs) := rfl
  clear hto
  go_enter Tryz.func40, Tryz.ntmps40
  go_wp2_with fail
  clear hmm
  generalize w.alloc (.map #[] 0) = X0 at *
  go_loopw [3, 18] (fun s3 s18 wr => ∃ (k : Nat) (D : DataW Unit) (st : M.LS), k ≤ fs.length ∧ s18 = .int .i64 k ∧ s3 = .int .i64 st.pos ∧ Hid (st = M.layGo sect ⟨tl, pos, []⟩ 0 (fs.take k)) ∧ Hid (SeenAt D st.seen) ∧ Hid (LI w wr B g cap fs.length w.heap.size k D st.adr) ∧ 0 ≤ st.pos ∧ st.pos ≤ pos + 71 * k ∧ Hid (∀ x ∈ st.seen, 0 ≤ x.2.2 ∧ x.2.2 ≤ st.pos) ∧ Hid (st.adr.length = fs.length)) (fun _ s18 _ => fs.length - (intOf s18).toNat)
  case atStart => exact ⟨0, .map [], ⟨tl, pos, []⟩, Nat.zero_le _, rfl, rfl, rfl, SeenAt.nil, HI0, h0, by show pos ≤ pos + 71 * ((0 : Nat) : Int); omega, (fun x hx => by cases hx), hlen⟩
  case round =>
    obtain ⟨k, D, st, hk, rfl, rfl, HS, HSe, HI, hp0, hp1, HSn, HLn⟩ := hrel
    clear HI0
    by_cases hlt : k < fs.length
    · obtain ⟨b, off, ab, cb, ar, cr, rfl, e0, e1, e2, e3, e4, e5, hBy, hRl, hg, hbl⟩ := (HF.out wr HI.out.gb).cells k hlt
      have HS1 : Hid (M.layStep sect st k (fs.getD k frg0) = M.layGo sect ⟨tl, pos, []⟩ 0 (fs.take (k + 1))) := by
        rw [Hid, take_snoc fs frg0 k hlt, M.layGo_snoc, ← HS.out, List.length_take, Nat.zero_add, Nat.min_eq_left hk]
      obtain ⟨hok, htx⟩ := HOk.out _ (getD_mem fs frg0 k hlt)
      have HP1 := M.layStep_pos (sect := sect) (i := k) hok hp0
      have HN1 : Hid (∀ x ∈ (M.layStep sect st k (fs.getD k frg0)).seen, 0 ≤ x.2.2 ∧ x.2.2 ≤ (M.layStep sect st k (fs.getD k frg0)).pos) := M.layStep_seen hok hp0 hp0 HSn.out
      have HLn1 : Hid ((M.layStep sect st k (fs.getD k frg0)).adr.length = fs.length) := (M.layStep_len ..).trans HLn.out
      clear hRl hbl HS
      generalize fs.getD k frg0 = f at *
      have hbr : b < wr.heap.size := World.block_lt_of_cell? _ _ e0
      have hkl : (k : Int) < (fs.length : Int) := by omega
      have hgn : g < wr.heap.size := (row_cell HI.out.row k hlt).2.2
      have hmn : w.heap.size < wr.heap.size := HI.out.map.lt
      by_cases hs : f.sect = sect
      · have HST : Hid (M.layStep sect st k f = (M.look st.seen f.bytes f.align).elim (M.layNew sect st k f) (M.layOld st k)) := if_pos hs
        have hal := hok.align
        have hnb := M.next_bounds hp0 hal
        have hl0 := hok.long0
        have hl64 := hok.long64
        have hsm := hok.small
        have hLong : M.long f = M.lng f.sect f.size f.bytes.length := rfl
        obtain ⟨s, al, gr, bs, sz, rs⟩ := f
        simp only at e0 e1 e2 e3 e4 e5 hg hs htx hBy hal hnb hsm hLong
        subst hs
        go_upto_region 6 with fail
        have xf := heap_alloc_new wr (.cells #[.int .i64 s, .int .i64 al, .string gr, .slice ab bs.length cb, .int .i64 sz, .slice ar rs.length cr] 56)
        have hB1 : Below wr.heap.size wr (wr.alloc (.cells #[.int .i64 s, .int .i64 al, .string gr, .slice ab bs.length cb, .int .i64 sz, .slice ar rs.length cr] 56)) := (Below.refl _ _).alloc (Nat.le_refl _) _
        have HI1 : Hid (LI w (wr.alloc (.cells #[.int .i64 s, .int .i64 al, .string gr, .slice ab bs.length cb, .int .i64 sz, .slice ar rs.length cr] 56)) B g cap fs.length w.heap.size k D st.adr) := HI.out.later hB1
        have hcv := conv_bytes (hBy.later hB1)
        clear e0 e1 e2 e3 e4 e5 HI hB1 hBy
        generalize wr.alloc (.cells #[.int .i64 s, .int .i64 al, .string gr, .slice ab bs.length cb, .int .i64 sz, .slice ar rs.length cr] 56) = X at *
        generalize wr.heap.size = nf at *
        have hlf : nf < X.heap.size := (Array.getElem?_eq_some_iff.1 xf).1
        have kf3 : X.cell? ⟨nf, 3, none⟩ = some (.slice ab bs.length cb) := cellB xf 3
        have kf1 : X.cell? ⟨nf, 1, none⟩ = some (.int .i64 al) := cellB xf 1
        go_upto_region 7 with fail
        have xk := heap_alloc_new X (.cells #[.string (strOfNums bs), .int .i64 al] 129)
        have hB2 : Below X.heap.size X (X.alloc (.cells #[.string (strOfNums bs), .int .i64 al] 129)) := (Below.refl _ _).alloc (Nat.le_refl _) _
        have HI2 : Hid (LI w (X.alloc (.cells #[.string (strOfNums bs), .int .i64 al] 129)) B g cap fs.length w.heap.size k D st.adr) := HI1.out.later hB2
        have xf2 := (hB2.block _ hlf).trans xf
        clear hcv kf3 kf1 HI1 hB2 xf
        generalize X.alloc (.cells #[.string (strOfNums bs), .int .i64 al] 129) = Y at *
        generalize X.heap.size = nk at *
        obtain ⟨c, hlook, hc⟩ := HI2.out.look HSe.out htx
        have kk0 : Y.cell? ⟨nk, 0, none⟩ = some (.string (strOfNums bs)) := cellB xk 0
        have kk1 : Y.cell? ⟨nk, 1, none⟩ = some (.int .i64 al) := cellB xk 1
        have hlk : nk < Y.heap.size := (Array.getElem?_eq_some_iff.1 xk).1
        obtain ⟨kg, zg, hlg⟩ := row_cell HI2.out.row k hlt
        cases hL : M.look st.seen bs al with
        | some x =>
          have hcx := hc x hL
          subst hcx
          rw [hL] at hlook HST
          have HST' : Hid (M.layStep s st k ⟨s, al, gr, bs, sz, rs⟩ = M.layOld st k c) := HST.out
          have HI3 : Hid (LI w (Y.setCell ⟨g, k, none⟩ (.int .i64 c)) B g cap fs.length w.heap.size (k + 1) D (M.layOld st k c).adr) := (HI2.out.store k c).more
          clear HI2 xk xf2 HST hc
          rw [HST'.out] at HS1 HP1 HN1 HLn1
          go_wp2
          go_roundw
          case rel => exact ⟨k + 1, D, M.layOld st k c, by omega, by go_num, rfl, HS1, HSe, HI3, by omega, by omega, HN1, HLn1⟩
          case measure => simp [intOf]; omega
        | none =>
          rw [hL] at hlook HST
          have HST' : Hid (M.layStep s st k ⟨s, al, gr, bs, sz, rs⟩ = M.layNew s st k ⟨s, al, gr, bs, sz, rs⟩) := HST.out
          clear HST hc
          rw [HST'.out] at HS1 HP1 HN1 HLn1
          have hkn : nf < nk := hlf
          have KN : Hid (Calls Tryz.prog 39 #[.int .i64 st.pos, .int .i64 al] Y fun e w' => e = .returned (.int .i64 (M.next st.pos al)) ∧ Y = w') := (next_any st.pos al hp0 (by omega) hal Y).mono fun e w' ⟨h1, h2⟩ => ⟨h1, h2.symm⟩
          have KLg : Hid (∀ W, Calls Tryz.prog 76 #[.agg #[.int .i64 s, .int .i64 al, .string gr, .slice ab bs.length cb, .int .i64 sz, .slice ar rs.length cr]] W fun e w' => e = .returned (.int .i64 (M.lng s sz bs.length)) ∧ Below W.heap.size W w') := fun W => long_any s al sz gr ab bs.length cb _ W
          have kf1 : Y.cell? ⟨nf, 1, none⟩ = some (.int .i64 al) := cellB xf2 1
          have hlf2 : nf < Y.heap.size := (Array.getElem?_eq_some_iff.1 xf2).1
          go_upto_region 11 with (go_at_call 39; refine KN.out.mono ?_; rintro e w' ⟨rfl, rfl⟩)
          have HI3 : Hid (LI w (Y.setCell ⟨g, k, none⟩ (.int .i64 (M.next st.pos al))) B g cap fs.length w.heap.size k D (st.adr.set k (M.next st.pos al))) := HI2.out.store k _
          have xf3 : (Y.setCell ⟨g, k, none⟩ (.int .i64 (M.next st.pos al))).heap[nf]? = some (.cells #[.int .i64 s, .int .i64 al, .string gr, .slice ab bs.length cb, .int .i64 sz, .slice ar rs.length cr] 56 (0, 0)) := (Below.heap_setCell _ _ _ _ (by show nf ≠ g; omega)).trans xf2
          have xk3 : (Y.setCell ⟨g, k, none⟩ (.int .i64 (M.next st.pos al))).heap[nk]? = some (.cells #[.string (strOfNums bs), .int .i64 al] 129 (0, 0)) := (Below.heap_setCell _ _ _ _ (by show nk ≠ g; omega)).trans xk
          clear HI2 xf2 xk KN kf1 kk0 kk1 kg zg hlook hlf2 hlk hlg
          generalize Y.setCell ⟨g, k, none⟩ (.int .i64 (M.next st.pos al)) = Z at *
          have f0 : Z.cell? ⟨nf, 0, none⟩ = some (.int .i64 s) := cellB xf3 0
          have f1 : Z.cell? ⟨nf, 1, none⟩ = some (.int .i64 al) := cellB xf3 1
          have f2 : Z.cell? ⟨nf, 2, none⟩ = some (.string gr) := cellB xf3 2
          have f3 : Z.cell? ⟨nf, 3, none⟩ = some (.slice ab bs.length cb) := cellB xf3 3
          have f4 : Z.cell? ⟨nf, 4, none⟩ = some (.int .i64 sz) := cellB xf3 4
          have f5 : Z.cell? ⟨nf, 5, none⟩ = some (.slice ar rs.length cr) := cellB xf3 5
          have hlZ : nf < Z.heap.size := (Array.getElem?_eq_some_iff.1 xf3).1
          have kz := (row_cell HI3.out.row k hlt).1
          rw [set_get _ _ _ (by rw [HLn.out]; exact hlt)] at kz
          refine wp_region_lat (by kernel_rfl) (by kernel_rfl) ?_
          intro hne
          repeat (go_big_quiet_step ((go_at_call 76; exact lat_of (KLg.out _))))
          refine wpQuiet_nil ?_
          intro V hbV
          have hbV := lat_out hbV
          clear hne f0 f1 f2 f3 f4 f5 KLg kz
          have HI4 : Hid (LI w V B g cap fs.length w.heap.size k D (st.adr.set k (M.next st.pos al))) := HI3.out.later hbV
          have xk4 := (hbV.block _ (Array.getElem?_eq_some_iff.1 xk3).1).trans xk3
          clear HI3 xf3 xk3 hbV hlZ
          have hadd : M.next st.pos al + M.lng s sz bs.length = (M.layNew s st k ⟨s, al, gr, bs, sz, rs⟩).pos := rfl
          by_cases h3 : s = 3
          · have HSe1 : Hid (SeenAt (D.put (textL bs al) (.lit (.int .i64 (M.next st.pos al)))) (M.layNew s st k ⟨s, al, gr, bs, sz, rs⟩).seen) := by
              have : (M.layNew s st k ⟨s, al, gr, bs, sz, rs⟩).seen = (bs, al, M.next st.pos al) :: st.seen := if_pos h3
              rw [Hid, this]
              exact HSe.out.put htx
            have h3' : (s == 3) = true := by simpa using h3
            clear h3
            obtain ⟨V2, hrun2, hg2, hI2⟩ := (HI4.out.later (Below.refl _ _).drew).put (by omega) htx (wf_small (x := M.next st.pos al) (by omega) (by omega))
            have HI5 : Hid (LI w V2 B g cap fs.length w.heap.size (k + 1) (D.put (textL bs al) (.lit (.int .i64 (M.next st.pos al)))) (M.layNew s st k ⟨s, al, gr, bs, sz, rs⟩).adr) := hI2
            have kz := (row_cell HI4.out.row k hlt).1
            rw [set_get _ _ _ (by rw [HLn.out]; exact hlt)] at kz
            have kz2 := (row_cell hI2.row k hlt).1
            rw [set_get _ _ _ (by rw [HLn.out]; exact hlt)] at kz2
            have k0 : V.cell? ⟨nk, 0, none⟩ = some (.string (strOfNums bs)) := cellB xk4 0
            have k1 : V.cell? ⟨nk, 1, none⟩ = some (.int .i64 al) := cellB xk4 1
            have hlV : nk < V.heap.size := (Array.getElem?_eq_some_iff.1 xk4).1
            have xk5 := (hg2.block nk hlV (by intro e; have := Option.some.inj e; omega)).trans xk4
            have k02 : V2.cell? ⟨nk, 0, none⟩ = some (.string (strOfNums bs)) := cellB xk5 0
            have k12 : V2.cell? ⟨nk, 1, none⟩ = some (.int .i64 al) := cellB xk5 1
            have HS0 : Hid (V.drew.cell? ⟨nk, 0, none⟩ = some (.string (strOfNums bs)) ∧ V.drew.cell? ⟨nk, 1, none⟩ = some (.int .i64 al) ∧ V.drew.cell? ⟨g, k, none⟩ = some (.int .i64 (M.next st.pos al))) := ⟨k0, k1, kz⟩
            have HS2 : Hid (V2.cell? ⟨nk, 0, none⟩ = some (.string (strOfNums bs)) ∧ V2.cell? ⟨nk, 1, none⟩ = some (.int .i64 al) ∧ V2.cell? ⟨g, k, none⟩ = some (.int .i64 (M.next st.pos al))) := ⟨k02, k12, kz2⟩
            clear HI4 hI2 hg2 xk4 xk5 k02 k12 kz2 k0 k1 kz HSe
            go_upto_region 13 with fail
            go_region_held3 (fun w' => w'.cell? ⟨nk, 0, none⟩ = some (.string (strOfNums bs)) ∧ w'.cell? ⟨nk, 1, none⟩ = some (.int .i64 al) ∧ w'.cell? ⟨g, k, none⟩ = some (.int .i64 (M.next st.pos al))) (first | exact HS0.out | exact HS2.out) (fail)
            all_goals
              clear HS0 HS2 hrun2
              go_wp2
              go_roundw
              case rel => exact ⟨k + 1, _, M.layNew s st k ⟨s, al, gr, bs, sz, rs⟩, by omega, by go_num, rfl, HS1, HSe1, HI5, by omega, by omega, HN1, HLn1⟩
              case measure => simp [intOf]; omega
          · have HSe1 : Hid (SeenAt D (M.layNew s st k ⟨s, al, gr, bs, sz, rs⟩).seen) := by
              have : (M.layNew s st k ⟨s, al, gr, bs, sz, rs⟩).seen = st.seen := if_neg h3
              rw [Hid, this]
              exact HSe.out
            have h3' : (s == 3) = false := by simpa using h3
            have HI5 : Hid (LI w V B g cap fs.length w.heap.size (k + 1) D (M.layNew s st k ⟨s, al, gr, bs, sz, rs⟩).adr) := HI4.out.more
            clear HI4 xk4 HSe
            go_wp2
            go_roundw
            case rel => exact ⟨k + 1, _, M.layNew s st k ⟨s, al, gr, bs, sz, rs⟩, by omega, by go_num, rfl, HS1, HSe1, HI5, by omega, by omega, HN1, HLn1⟩
            case measure => simp [intOf]; omega
      · have HST : Hid (M.layStep sect st k f = st) := if_neg hs
        have HI1 : Hid (LI w (wr.alloc (.cells #[.int .i64 f.sect, .int .i64 f.align, .string f.group, .slice ab f.bytes.length cb, .int .i64 f.size, .slice ar f.rels.length cr] 56)) B g cap fs.length w.heap.size (k + 1) D st.adr) := (HI.out.later ((Below.refl _ _).alloc (Nat.le_refl _) _)).more
        rw [HST.out] at HS1 HP1 HN1 HLn1
        have hne : (f.sect != sect) = true := by simpa using hs
        clear HI HST hBy hok
        obtain ⟨s, al, gr, bs, sz, rs⟩ := f
        simp only at e0 e1 e2 e3 e4 e5 hg hs htx HI1 hne
        go_wp2
        go_roundw
        case rel => exact ⟨k + 1, D, st, by omega, by go_num, rfl, HS1, HSe, HI1, by omega, by omega, HSn, HLn⟩
        case measure => simp [intOf]; omega
    · have hkl : k = fs.length := by omega
      subst hkl
      have HS1 := HS.out
      rw [List.take_length] at HS1
      have HE : Hid (M.layFrags sect tl fs pos = st) := by rw [Hid, HL.out, HS1]
      clear HS HS1
      go_wp2
      go_ret
      exact ⟨by rw [HE.out]; rfl, HI.out.gb, by rw [HE.out]; exact HI.out.row⟩

end Go.Proofs.YtcdpboocfkaifaaGreatDoor
