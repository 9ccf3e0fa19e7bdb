/-
  The contracts of checkTarget, formed, checkCommon.
-/
import Derived.Test.YtebhbhbhcoijpaaSmall2
namespace Go.Proofs.Ytebhbhbhcoijpaa
open Go.RowKit

theorem target_any (pos kind : Int) (name : ByteArray) (frag add many : Int) (w : World) (hn : name.size ≤ maxLen) (h0 : 0 ≤ many) (h1 : many ≤ 1000) :
    Calls Try.prog 108 #[.agg #[.int .i64 pos, .int .i64 kind, .string name, .int .i64 frag, .int .i64 add], .int .i64 many] w fun e w' =>
      e = .returned (.int .i64 (M.target ⟨pos, kind, name, frag, add⟩ many)) ∧ Below w.heap.size w w' := by
  cases hE : name.toList.isEmpty
  · cases hI : M.isName name
    · have HX : Hid (M.target ⟨pos, kind, name, frag, add⟩ many = 1) := by simp [Hid, M.target, hE, hI]
      go_enter Try.func108, Try.ntmps108
      go_wp2_with (go_at_call 84; refine (name_any _ _ hn).mono ?_; rintro e w' ⟨rfl, rfl⟩)
      go_ret
      exact ⟨ret_int HX.out.symm, (Below.refl _ _).alloc (Nat.le_refl _) _⟩
    · cases hF : (frag != 0)
      · have HX : Hid (M.target ⟨pos, kind, name, frag, add⟩ many = 0) := by simp [Hid, M.target, hE, hI]; simpa using hF
        go_enter Try.func108, Try.ntmps108
        go_wp2_with (go_at_call 84; refine (name_any _ _ hn).mono ?_; rintro e w' ⟨rfl, rfl⟩)
        go_ret
        exact ⟨ret_int HX.out.symm, (Below.refl _ _).alloc (Nat.le_refl _) _⟩
      · have HX : Hid (M.target ⟨pos, kind, name, frag, add⟩ many = 1) := by simp [Hid, M.target, hE, hI]; simpa using hF
        go_enter Try.func108, Try.ntmps108
        go_wp2_with (go_at_call 84; refine (name_any _ _ hn).mono ?_; rintro e w' ⟨rfl, rfl⟩)
        go_ret
        exact ⟨ret_int HX.out.symm, (Below.refl _ _).alloc (Nat.le_refl _) _⟩
  · cases hI : M.within frag (-1) (many - 1)
    · have HX : Hid (M.target ⟨pos, kind, name, frag, add⟩ many = 5) := by simp [Hid, M.target, hE, hI]
      go_enter Try.func108, Try.ntmps108
      go_wp2_with (go_at_call 82; refine (within_any _ _ _ _).mono ?_; rintro e w' ⟨rfl, rfl⟩)
      go_ret
      exact ⟨ret_int HX.out.symm, (Below.refl _ _).alloc (Nat.le_refl _) _⟩
    · have HX : Hid (M.target ⟨pos, kind, name, frag, add⟩ many = 0) := by simp [Hid, M.target, hE, hI]
      go_enter Try.func108, Try.ntmps108
      go_wp2_with (go_at_call 82; refine (within_any _ _ _ _).mono ?_; rintro e w' ⟨rfl, rfl⟩)
      go_ret
      exact ⟨ret_int HX.out.symm, (Below.refl _ _).alloc (Nat.le_refl _) _⟩

/-- whether a fragment has only what its section lets it have, by the lengths alone -/
def frm (s sz : Int) (n m : Nat) : Bool :=
  if s = 5 then n == 0 && m == 0 && M.within sz 0 64
  else if s = 3 then sz == 0 && m == 0
  else sz == 0

theorem frm_eq (f : M.Frg) : frm f.sect f.size f.bytes.length f.rels.length = M.formed f := rfl

theorem nat_b {n : Nat} {b : Bool} (h : (n == 0) = b) : ((n : Int) == 0) = b := by
  rw [← h]; cases n <;> rfl

theorem formed_any (s al sz : Int) (g : ByteArray) (a a' : Option Addr) (n c m c' : Nat) (w : World) :
    Calls Try.prog 85 #[.agg #[.int .i64 s, .int .i64 al, .string g, .slice a n c, .int .i64 sz, .slice a' m c']] w fun e w' =>
      e = .returned (.bool (frm s sz n m)) ∧ Below w.heap.size w w' := by
  by_cases h5 : s = 5
  · subst h5
    cases hn : (n == 0) <;> cases hm : (m == 0)
    · have HX : Hid (frm 5 sz n m = false) := by simp [Hid, frm, hn]
      have hn' := nat_b hn
      clear hn hm
      go_enter Try.func85, Try.ntmps85
      go_wp2_with (go_at_call 82; refine (within_any _ _ _ _).mono ?_; rintro e w' ⟨rfl, rfl⟩)
      go_ret
      exact ⟨ret_bool HX.out.symm, (Below.refl _ _).alloc (Nat.le_refl _) _⟩
    · have HX : Hid (frm 5 sz n m = false) := by simp [Hid, frm, hn]
      have hn' := nat_b hn
      clear hn hm
      go_enter Try.func85, Try.ntmps85
      go_wp2_with (go_at_call 82; refine (within_any _ _ _ _).mono ?_; rintro e w' ⟨rfl, rfl⟩)
      go_ret
      exact ⟨ret_bool HX.out.symm, (Below.refl _ _).alloc (Nat.le_refl _) _⟩
    · have HX : Hid (frm 5 sz n m = false) := by simp [Hid, frm, hm]
      have hn' := nat_b hn
      have hm' := nat_b hm
      clear hn hm
      go_enter Try.func85, Try.ntmps85
      go_wp2_with (go_at_call 82; refine (within_any _ _ _ _).mono ?_; rintro e w' ⟨rfl, rfl⟩)
      go_ret
      exact ⟨ret_bool HX.out.symm, (Below.refl _ _).alloc (Nat.le_refl _) _⟩
    · have HX : Hid (frm 5 sz n m = M.within sz 0 64) := by simp [Hid, frm, hn, hm]
      have hn' := nat_b hn
      have hm' := nat_b hm
      clear hn hm
      go_enter Try.func85, Try.ntmps85
      go_wp2_with (go_at_call 82; refine (within_any _ _ _ _).mono ?_; rintro e w' ⟨rfl, rfl⟩)
      go_ret
      exact ⟨ret_bool HX.out.symm, (Below.refl _ _).alloc (Nat.le_refl _) _⟩
  · have b5 : (s == 5) = false := by simp [h5]
    by_cases h3 : s = 3
    · subst h3
      cases hz : (sz == 0)
      · have HX : Hid (frm 3 sz n m = false) := by simp [Hid, frm, hz]
        clear h5
        go_enter Try.func85, Try.ntmps85
        go_wp2
        go_ret
        exact ⟨ret_bool HX.out.symm, (Below.refl _ _).alloc (Nat.le_refl _) _⟩
      · have HX : Hid (frm 3 sz n m = ((m : Int) == 0)) := by
          simp only [Hid, frm, hz]
          cases m <;> rfl
        clear h5
        go_enter Try.func85, Try.ntmps85
        go_wp2
        go_ret
        exact ⟨ret_bool HX.out.symm, (Below.refl _ _).alloc (Nat.le_refl _) _⟩
    · have b3 : (s == 3) = false := by simp [h3]
      have HX : Hid (frm s sz n m = (sz == 0)) := by simp [Hid, frm, h5, h3]
      clear h5 h3
      go_enter Try.func85, Try.ntmps85
      go_wp2
      go_ret
      exact ⟨ret_bool HX.out.symm, (Below.refl _ _).alloc (Nat.le_refl _) _⟩

def cmn (frag pos size align : Int) : Bool := frag == 0 && pos == 0 && M.within size 1 64 && M.isAlign align

theorem bne_of {x : Int} {b : Bool} (h : (x == 0) = b) : (x != 0) = !b := by rw [← h]; rfl

theorem common_any (name : ByteArray) (kind frag pos size align : Int) (w : World) :
    Calls Try.prog 88 #[.agg #[.string name, .int .i64 kind, .int .i64 frag, .int .i64 pos, .int .i64 size, .int .i64 align]] w fun e w' =>
      e = .returned (.int .i64 (bif cmn frag pos size align then 0 else 3)) ∧ Below w.heap.size w w' := by
  have arm : ∀ r : Int, r = (bif cmn frag pos size align then 0 else 3) → Hid ((bif cmn frag pos size align then (0 : Int) else 3) = r) := fun r h => h.symm
  cases hf : (frag == 0)
  · have HX := arm 3 (by simp [cmn, hf]); have bf := bne_of hf; clear arm hf
    generalize (bif cmn frag pos size align then (0 : Int) else 3) = R at *
    go_enter Try.func88, Try.ntmps88
    go_wp2
    go_ret
    exact ⟨ret_int HX.out.symm, (Below.refl _ _).alloc (Nat.le_refl _) _⟩
  cases hp : (pos == 0)
  · have HX := arm 3 (by simp [cmn, hp]); have bf := bne_of hf; have bp := bne_of hp; clear arm hf hp
    generalize (bif cmn frag pos size align then (0 : Int) else 3) = R at *
    go_enter Try.func88, Try.ntmps88
    go_wp2
    go_ret
    exact ⟨ret_int HX.out.symm, (Below.refl _ _).alloc (Nat.le_refl _) _⟩
  cases hs : M.within size 1 64
  · have HX := arm 3 (by simp [cmn, hs]); have bf := bne_of hf; have bp := bne_of hp; clear arm hf hp
    generalize (bif cmn frag pos size align then (0 : Int) else 3) = R at *
    go_enter Try.func88, Try.ntmps88
    go_wp2_with (go_at_call 82; refine (within_any _ _ _ _).mono ?_; rintro e w' ⟨rfl, rfl⟩)
    go_ret
    exact ⟨ret_int HX.out.symm, (Below.refl _ _).alloc (Nat.le_refl _) _⟩
  cases ha : M.isAlign align
  · have HX := arm 3 (by simp [cmn, ha]); have bf := bne_of hf; have bp := bne_of hp; clear arm hf hp
    generalize (bif cmn frag pos size align then (0 : Int) else 3) = R at *
    go_enter Try.func88, Try.ntmps88
    go_wp2_with (first | (go_at_call 82; refine (within_any _ _ _ _).mono ?_; rintro e w' ⟨rfl, rfl⟩) | (go_at_call 83; refine (alignment_any _ _).mono ?_; rintro e w' ⟨rfl, rfl⟩))
    go_ret
    exact ⟨ret_int HX.out.symm, (Below.refl _ _).alloc (Nat.le_refl _) _⟩
  · have HX := arm 0 (by simp [cmn, ha, hs, hf, hp]); have bf := bne_of hf; have bp := bne_of hp; clear arm hf hp
    generalize (bif cmn frag pos size align then (0 : Int) else 3) = R at *
    go_enter Try.func88, Try.ntmps88
    go_wp2_with (first | (go_at_call 82; refine (within_any _ _ _ _).mono ?_; rintro e w' ⟨rfl, rfl⟩) | (go_at_call 83; refine (alignment_any _ _).mono ?_; rintro e w' ⟨rfl, rfl⟩))
    go_ret
    exact ⟨ret_int HX.out.symm, (Below.refl _ _).alloc (Nat.le_refl _) _⟩

end Go.Proofs.Ytebhbhbhcoijpaa
