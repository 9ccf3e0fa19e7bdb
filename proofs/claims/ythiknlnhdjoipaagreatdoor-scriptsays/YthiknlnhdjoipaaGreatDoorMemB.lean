/-
  A region that draws its order and whose callees make memory of their own but turn nothing that was there: one walk, in the order of the text. (Over the kit's 'wp_region_quiet', at the class of the worlds that have grown.) The contracts of Long, LongOf, WideOf, Name. The contracts of checkTarget, formed, checkCommon.
-/
import Derived.WalkKit
import Derived.Below
import Derived.BigQuiet
import Derived.Deep.RegionHeld
import Derived.Test.YthiknlnhdjoipaaGreatDoorMemA
import Derived.Deep.DeepMust

namespace Go.Proofs.YthiknlnhdjoipaaGreatDoor
open Go Go.RowKit

/-- a world that has grown out of W -/
structure Lat (W : World) where
  world : World
  below : Below W.heap.size W world

def lat (W : World) (x : Lat W) : World := x.world

theorem lat_cell (W : World) (x : Lat W) (a : Addr) (h : (W.cell? a).isSome = true) : (lat W x).cell? a = W.cell? a := by
  obtain ⟨u, hu⟩ := Option.isSome_iff_exists.1 h
  exact x.below.cell (World.block_lt_of_cell? W a hu)

theorem lat_of {P : Program} {f : FuncId} {args : Array Value} {W : World} {x : Lat W} {v : Value}
    (h : Calls P f args (lat W x) fun e w' => e = .returned v ∧ Below (lat W x).heap.size (lat W x) w') : Calls P f args (lat W x) fun e w'' => e = .returned v ∧ ∃ y : Lat W, w'' = lat W y :=
  h.mono fun _ w'' ⟨he, hb⟩ => ⟨he, ⟨w'', x.below.trans (hb.mono x.below.size)⟩, rfl⟩

theorem lat_of_same {P : Program} {f : FuncId} {args : Array Value} {W : World} {x : Lat W} {v : Value}
    (h : Calls P f args (lat W x) fun e w' => e = .returned v ∧ w' = lat W x) : Calls P f args (lat W x) fun e w'' => e = .returned v ∧ ∃ y : Lat W, w'' = lat W y :=
  h.mono fun _ _ ⟨he, hb⟩ => ⟨he, x, hb⟩

theorem wp_region_lat {P : Program} {id : Nat} {Q : Exit → Act → World → Prop} {a : Act} {w : World} {l : List Oper} (hm : P.follows .mixedOrders = true) (hB : Region.lexB .any l.toArray = true)
    (h : Nonempty (Lat w) → wpQuiet P l.toArray (fun w' => ∃ x : Lat w, w' = lat w x) (fun a' => ∀ w', (∃ x : Lat w, w' = lat w x) → Q .normal a' w') l a) : (Code.region id l.toArray true).wp P Q a w :=
  wp_region_quiet (C := fun w' => ∃ x : Lat w, w' = lat w x) hm hB ⟨⟨_, (Below.refl _ _).drew⟩, rfl⟩ (by simpa using h ⟨⟨_, Below.refl _ _⟩⟩)

theorem bcell {W w1 : World} (hb : Below W.heap.size W w1) : (∀ b o, b < W.heap.size → w1.cell? ⟨b, o, none⟩ = W.cell? ⟨b, o, none⟩) ∧ (∀ b o, b < W.heap.size → w1.frozen? ⟨b, o, none⟩ = W.frozen? ⟨b, o, none⟩) :=
  ⟨fun b o h => hb.cell (p := ⟨b, o, none⟩) h, fun b o h => hb.frozen (p := ⟨b, o, none⟩) h⟩

theorem lat_out {W w1 : World} (h : ∃ x : Lat W, w1 = lat W x) : Below W.heap.size W w1 := by
  obtain ⟨x, rfl⟩ := h
  exact x.below

end Go.Proofs.YthiknlnhdjoipaaGreatDoor

namespace Go.Proofs.YthiknlnhdjoipaaGreatDoor
open Go.RowKit

theorem long_any (s al sz : Int) (g : ByteArray) (a : Option Addr) (n c : Nat) (vr : Value) (w : World) :
    Calls Tryz.prog 102 #[.agg #[.int .i64 s, .int .i64 al, .string g, .slice a n c, .int .i64 sz, vr]] w fun e w' =>
      e = .returned (.int .i64 (M.lng s sz n)) ∧ Below w.heap.size w w' := by
  by_cases h : s = 5
  · subst h
    go_enter Tryz.func102, Tryz.ntmps102
    go_wp2
    go_ret
    exact ⟨rfl, (Below.refl _ _).alloc (Nat.le_refl _) _⟩
  · have b : (s == 5) = false := by simp [h]
    have HX : Hid (M.lng s sz n = n) := if_neg h
    clear h
    go_enter Tryz.func102, Tryz.ntmps102
    go_wp2
    go_ret
    exact ⟨ret_int HX.out.symm, (Below.refl _ _).alloc (Nat.le_refl _) _⟩

theorem longOf_any (s al sz : Int) (g : ByteArray) (a : Option Addr) (n c : Nat) (vr : Value) (w : World) :
    Calls Tryz.prog 26 #[.agg #[.int .i64 s, .int .i64 al, .string g, .slice a n c, .int .i64 sz, vr]] w fun e w' =>
      e = .returned (.int .i64 (M.lng s sz n)) ∧ Below w.heap.size w w' := by
  by_cases h : s = 5
  · subst h
    go_enter Tryz.func26, Tryz.ntmps26
    go_wp2
    go_ret
    exact ⟨rfl, (Below.refl _ _).alloc (Nat.le_refl _) _⟩
  · have b : (s == 5) = false := by simp [h]
    have HX : Hid (M.lng s sz n = n) := if_neg h
    clear h
    go_enter Tryz.func26, Tryz.ntmps26
    go_wp2
    go_ret
    exact ⟨ret_int HX.out.symm, (Below.refl _ _).alloc (Nat.le_refl _) _⟩

theorem all_take_succ (l : List UInt8) (f : UInt8 → Bool) (k : Nat) (h : k < l.length) : (l.take (k + 1)).all f = ((l.take k).all f && f l[k]) := by
  rw [List.take_succ_eq_append_getElem h, List.all_append]; simp

theorem all_false_of (l : List UInt8) (f : UInt8 → Bool) (k : Nat) (h : k < l.length) (hf : f l[k] = false) : l.all f = false := by
  rw [List.all_eq_false]
  exact ⟨l[k], List.getElem_mem h, by simp [hf]⟩

set_option maxHeartbeats 400000 in
theorem name_any (s : ByteArray) (w : World) (hs : s.size ≤ maxLen) :
    Calls Tryz.prog 69 #[.string s] w fun e w' => e = .returned (.bool (M.isName s)) ∧ w' = w := by
  unfold maxLen at hs
  by_cases h1 : 1 ≤ s.size
  · by_cases h2 : s.size ≤ 8
    · have HX : Hid (M.isName s = s.data.toList.all fun c => M.nameByte c.toNat) := by simp [Hid, M.isName, h1, h2]
      go_enter Tryz.func69, Tryz.ntmps69
      go_wp2_with fail
      go_loop [14] (fun i => ∃ k : Nat, k ≤ s.size ∧ i = .int .i64 k ∧ Hid ((s.data.toList.take k).all (fun c => M.nameByte c.toNat) = true)) (fun i => s.size - (intOf i).toNat)
      case atStart => exact ⟨0, Nat.zero_le _, rfl, rfl⟩
      case round =>
        obtain ⟨k, hk, rfl, HA⟩ := hrel
        by_cases hlt : k < s.size
        · have hl : k < s.data.toList.length := by simpa using hlt
          have HS : Hid ((s.data.toList.take (k + 1)).all (fun c => M.nameByte c.toNat) = M.nameByte s[k].toNat) := by
            show _ = _
            rw [all_take_succ _ _ _ hl, HA.out]; rfl
          have HF : Hid (M.nameByte s[k].toNat = false → M.isName s = false) := fun hf => by rw [HX.out]; exact all_false_of _ _ k hl hf
          clear HA HX
          go_wp2_with (go_at_call 98; refine (nameByte_any _ _).mono ?_; rintro e w' ⟨rfl, rfl⟩)
          · go_ret
            refine ⟨ret_bool (HF.out ?_).symm, rfl⟩
            simp_all
          · go_round
            case rel => exact ⟨k + 1, by omega, by go_num, by show _ = _; rw [HS.out]; simp_all⟩
            case measure => simp [intOf]; omega
        · have hk' : k = s.size := by omega
          have HT : Hid (M.isName s = true) := by
            show _ = _
            rw [HX.out]
            have := HA.out
            rwa [hk', List.take_of_length_le (by simp)] at this
          clear HA HX hk'
          go_wp2
          go_ret
          exact ⟨ret_bool HT.out.symm, rfl⟩
    · have HX : Hid (M.isName s = false) := by simp [Hid, M.isName, h2]
      go_enter Tryz.func69, Tryz.ntmps69
      go_wp2
      go_ret
      exact ⟨ret_bool HX.out.symm, rfl⟩
  · have HX : Hid (M.isName s = false) := by simp [Hid, M.isName, h1]
    go_enter Tryz.func69, Tryz.ntmps69
    go_wp2
    go_ret
    exact ⟨ret_bool HX.out.symm, rfl⟩

end Go.Proofs.YthiknlnhdjoipaaGreatDoor

namespace Go.Proofs.YthiknlnhdjoipaaGreatDoor
open Go.RowKit

theorem target_any (pos kind : Int) (name : ByteArray) (frag add many : Int) (w : World) (hn : name.size ≤ maxLen) (h0 : 0 ≤ many) (h1 : many ≤ 1000) :
    Calls Tryz.prog 101 #[.agg #[.int .i64 pos, .int .i64 kind, .string name, .int .i64 frag, .int .i64 add], .int .i64 many] w fun e w' =>
      e = .returned (.int .i64 (M.target ⟨pos, kind, name, frag, add⟩ many)) ∧ Below w.heap.size w w' := by
  cases hE : name.toList.isEmpty
  · cases hI : M.isName name
    · have HX : Hid (M.target ⟨pos, kind, name, frag, add⟩ many = 1) := by simp [Hid, M.target, hE, hI]
      go_enter Tryz.func101, Tryz.ntmps101
      go_wp2_with (go_at_call 69; refine (name_any _ _ hn).mono ?_; rintro e w' ⟨rfl, rfl⟩)
      go_ret
      exact ⟨ret_int HX.out.symm, (Below.refl _ _).alloc (Nat.le_refl _) _⟩
    · cases hF : (frag != 0)
      · have HX : Hid (M.target ⟨pos, kind, name, frag, add⟩ many = 0) := by simp [Hid, M.target, hE, hI]; simpa using hF
        go_enter Tryz.func101, Tryz.ntmps101
        go_wp2_with (go_at_call 69; refine (name_any _ _ hn).mono ?_; rintro e w' ⟨rfl, rfl⟩)
        go_ret
        exact ⟨ret_int HX.out.symm, (Below.refl _ _).alloc (Nat.le_refl _) _⟩
      · have HX : Hid (M.target ⟨pos, kind, name, frag, add⟩ many = 1) := by simp [Hid, M.target, hE, hI]; simpa using hF
        go_enter Tryz.func101, Tryz.ntmps101
        go_wp2_with (go_at_call 69; refine (name_any _ _ hn).mono ?_; rintro e w' ⟨rfl, rfl⟩)
        go_ret
        exact ⟨ret_int HX.out.symm, (Below.refl _ _).alloc (Nat.le_refl _) _⟩
  · cases hI : M.within frag (-1) (many - 1)
    · have HX : Hid (M.target ⟨pos, kind, name, frag, add⟩ many = 5) := by simp [Hid, M.target, hE, hI]
      go_enter Tryz.func101, Tryz.ntmps101
      go_wp2_with (go_at_call 67; refine (within_any _ _ _ _).mono ?_; rintro e w' ⟨rfl, rfl⟩)
      go_ret
      exact ⟨ret_int HX.out.symm, (Below.refl _ _).alloc (Nat.le_refl _) _⟩
    · have HX : Hid (M.target ⟨pos, kind, name, frag, add⟩ many = 0) := by simp [Hid, M.target, hE, hI]
      go_enter Tryz.func101, Tryz.ntmps101
      go_wp2_with (go_at_call 67; refine (within_any _ _ _ _).mono ?_; rintro e w' ⟨rfl, rfl⟩)
      go_ret
      exact ⟨ret_int HX.out.symm, (Below.refl _ _).alloc (Nat.le_refl _) _⟩

/-- whether a fragment has only what its section lets it have, by the lengths alone -/
def frm (s sz : Int) (n m : Nat) : Bool :=
  if s = 5 then n == 0 && m == 0 && M.within sz 0 64
  else if s = 3 then sz == 0 && m == 0
  else sz == 0

theorem frm_eq (f : M.Frg) : frm f.sect f.size f.bytes.length f.rels.length = M.formed f := rfl

theorem nat_b {n : Nat} {b : Bool} (h : (n == 0) = b) : ((n : Int) == 0) = b := by
  rw [← h]; cases n <;> rfl

theorem formed_any (s al sz : Int) (g : ByteArray) (a a' : Option Addr) (n c m c' : Nat) (w : World) :
    Calls Tryz.prog 70 #[.agg #[.int .i64 s, .int .i64 al, .string g, .slice a n c, .int .i64 sz, .slice a' m c']] w fun e w' =>
      e = .returned (.bool (frm s sz n m)) ∧ Below w.heap.size w w' := by
  by_cases h5 : s = 5
  · subst h5
    cases hn : (n == 0) <;> cases hm : (m == 0)
    · have HX : Hid (frm 5 sz n m = false) := by simp [Hid, frm, hn]
      have hn' := nat_b hn
      clear hn hm
      go_enter Tryz.func70, Tryz.ntmps70
      go_wp2_with (go_at_call 67; refine (within_any _ _ _ _).mono ?_; rintro e w' ⟨rfl, rfl⟩)
      go_ret
      exact ⟨ret_bool HX.out.symm, (Below.refl _ _).alloc (Nat.le_refl _) _⟩
    · have HX : Hid (frm 5 sz n m = false) := by simp [Hid, frm, hn]
      have hn' := nat_b hn
      clear hn hm
      go_enter Tryz.func70, Tryz.ntmps70
      go_wp2_with (go_at_call 67; refine (within_any _ _ _ _).mono ?_; rintro e w' ⟨rfl, rfl⟩)
      go_ret
      exact ⟨ret_bool HX.out.symm, (Below.refl _ _).alloc (Nat.le_refl _) _⟩
    · have HX : Hid (frm 5 sz n m = false) := by simp [Hid, frm, hm]
      have hn' := nat_b hn
      have hm' := nat_b hm
      clear hn hm
      go_enter Tryz.func70, Tryz.ntmps70
      go_wp2_with (go_at_call 67; refine (within_any _ _ _ _).mono ?_; rintro e w' ⟨rfl, rfl⟩)
      go_ret
      exact ⟨ret_bool HX.out.symm, (Below.refl _ _).alloc (Nat.le_refl _) _⟩
    · have HX : Hid (frm 5 sz n m = M.within sz 0 64) := by simp [Hid, frm, hn, hm]
      have hn' := nat_b hn
      have hm' := nat_b hm
      clear hn hm
      go_enter Tryz.func70, Tryz.ntmps70
      go_wp2_with (go_at_call 67; refine (within_any _ _ _ _).mono ?_; rintro e w' ⟨rfl, rfl⟩)
      go_ret
      exact ⟨ret_bool HX.out.symm, (Below.refl _ _).alloc (Nat.le_refl _) _⟩
  · have b5 : (s == 5) = false := by simp [h5]
    by_cases h3 : s = 3
    · subst h3
      cases hz : (sz == 0)
      · have HX : Hid (frm 3 sz n m = false) := by simp [Hid, frm, hz]
        clear h5
        go_enter Tryz.func70, Tryz.ntmps70
        go_wp2
        go_ret
        exact ⟨ret_bool HX.out.symm, (Below.refl _ _).alloc (Nat.le_refl _) _⟩
      · have HX : Hid (frm 3 sz n m = ((m : Int) == 0)) := by
          simp only [Hid, frm, hz]
          cases m <;> rfl
        clear h5
        go_enter Tryz.func70, Tryz.ntmps70
        go_wp2
        go_ret
        exact ⟨ret_bool HX.out.symm, (Below.refl _ _).alloc (Nat.le_refl _) _⟩
    · have b3 : (s == 3) = false := by simp [h3]
      have HX : Hid (frm s sz n m = (sz == 0)) := by simp [Hid, frm, h5, h3]
      clear h5 h3
      go_enter Tryz.func70, Tryz.ntmps70
      go_wp2
      go_ret
      exact ⟨ret_bool HX.out.symm, (Below.refl _ _).alloc (Nat.le_refl _) _⟩

def cmn (frag pos size align : Int) : Bool := frag == 0 && pos == 0 && M.within size 1 64 && M.isAlign align

theorem bne_of {x : Int} {b : Bool} (h : (x == 0) = b) : (x != 0) = !b := by rw [← h]; rfl

theorem common_any (name : ByteArray) (kind frag pos size align : Int) (w : World) :
    Calls Tryz.prog 73 #[.agg #[.string name, .int .i64 kind, .int .i64 frag, .int .i64 pos, .int .i64 size, .int .i64 align]] w fun e w' =>
      e = .returned (.int .i64 (bif cmn frag pos size align then 0 else 3)) ∧ Below w.heap.size w w' := by
  have arm : ∀ r : Int, r = (bif cmn frag pos size align then 0 else 3) → Hid ((bif cmn frag pos size align then (0 : Int) else 3) = r) := fun r h => h.symm
  cases hf : (frag == 0)
  · have HX := arm 3 (by simp [cmn, hf]); have bf := bne_of hf; clear arm hf
    generalize (bif cmn frag pos size align then (0 : Int) else 3) = R at *
    go_enter Tryz.func73, Tryz.ntmps73
    go_wp2
    go_ret
    exact ⟨ret_int HX.out.symm, (Below.refl _ _).alloc (Nat.le_refl _) _⟩
  cases hp : (pos == 0)
  · have HX := arm 3 (by simp [cmn, hp]); have bf := bne_of hf; have bp := bne_of hp; clear arm hf hp
    generalize (bif cmn frag pos size align then (0 : Int) else 3) = R at *
    go_enter Tryz.func73, Tryz.ntmps73
    go_wp2
    go_ret
    exact ⟨ret_int HX.out.symm, (Below.refl _ _).alloc (Nat.le_refl _) _⟩
  cases hs : M.within size 1 64
  · have HX := arm 3 (by simp [cmn, hs]); have bf := bne_of hf; have bp := bne_of hp; clear arm hf hp
    generalize (bif cmn frag pos size align then (0 : Int) else 3) = R at *
    go_enter Tryz.func73, Tryz.ntmps73
    go_wp2_with (go_at_call 67; refine (within_any _ _ _ _).mono ?_; rintro e w' ⟨rfl, rfl⟩)
    go_ret
    exact ⟨ret_int HX.out.symm, (Below.refl _ _).alloc (Nat.le_refl _) _⟩
  cases ha : M.isAlign align
  · have HX := arm 3 (by simp [cmn, ha]); have bf := bne_of hf; have bp := bne_of hp; clear arm hf hp
    generalize (bif cmn frag pos size align then (0 : Int) else 3) = R at *
    go_enter Tryz.func73, Tryz.ntmps73
    go_wp2_with (first | (go_at_call 67; refine (within_any _ _ _ _).mono ?_; rintro e w' ⟨rfl, rfl⟩) | (go_at_call 68; refine (alignment_any _ _).mono ?_; rintro e w' ⟨rfl, rfl⟩))
    go_ret
    exact ⟨ret_int HX.out.symm, (Below.refl _ _).alloc (Nat.le_refl _) _⟩
  · have HX := arm 0 (by simp [cmn, ha, hs, hf, hp]); have bf := bne_of hf; have bp := bne_of hp; clear arm hf hp
    generalize (bif cmn frag pos size align then (0 : Int) else 3) = R at *
    go_enter Tryz.func73, Tryz.ntmps73
    go_wp2_with (first | (go_at_call 67; refine (within_any _ _ _ _).mono ?_; rintro e w' ⟨rfl, rfl⟩) | (go_at_call 68; refine (alignment_any _ _).mono ?_; rintro e w' ⟨rfl, rfl⟩))
    go_ret
    exact ⟨ret_int HX.out.symm, (Below.refl _ _).alloc (Nat.le_refl _) _⟩

end Go.Proofs.YthiknlnhdjoipaaGreatDoor
