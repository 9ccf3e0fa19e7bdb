/-
  The map of texts that stand: its keys, what it holds. The contract of layout.next.
-/
import Derived.Test.YtebhbhbhcoijpaaLyModel
import Derived.Test.YtebhbhbhcoijpaaOwnRow
import Derived.Test.YtebhbhbhcoijpaaPrtMem
import Derived.Maps.OwnSet
import Derived.Maps.Views
import Derived.DeepKeys4
import Derived.Laws.BytesArg
namespace Go.Proofs.Ytebhbhbhcoijpaa
open Go Go.RowKit Go.Maps
set_option linter.unusedVariables false

theorem lyLaid : laidOutB Try.prog = true := by kernel_rfl
theorem rowText : (148 : TypeId) < Try.prog.types.size := of_decide_eq_true (by kernel_rfl)
theorem keyText : Keyed Try.prog 148 := Keyed.of_law (deep_law_laid lyLaid (m := 3) (by omega) rowText (by kernel_rfl) (by kernel_rfl))

/-- a text, as a key -/
def textV (bs : List Int) (al : Int) : Value := .agg #[.string (strOfNums bs), .int .i64 al]
def textL (bs : List Int) (al : Int) : Lit := .string (keyBytes [.string (strOfNums bs).data.toList, .int .i64 al])

theorem typeText : Try.prog.keyType 148 = true := by kernel_rfl
theorem cellsText : Try.prog.cellsOf 148 = 2 := by kernel_rfl
theorem cellsStr : Try.prog.cellsOf 9 = 1 := by kernel_rfl
theorem cellsInt : Try.prog.cellsOf 3 = 1 := by kernel_rfl

theorem succ_of_lt {a n : Nat} (h : a < n) : ∃ m, n = m + 1 := ⟨n - 1, by omega⟩

theorem keyOf_text (bs : List Int) (al : Int) (hb : bs.length ≤ maxLen) (ha : (Lit.int .i64 al).wf = true) : keyOf Try.prog 148 (textV bs al) = some (textL bs al) := by
  have hs : (strOfNums bs).size ≤ maxLen := by rw [strOfNums_size]; exact hb
  obtain ⟨m, hm⟩ := succ_of_lt rowText
  unfold keyOf textV
  rw [Try.underlying148]
  simp only [typeText, Value.formed, Try.underlying148, cellsText, hm]
  simp [hs, ha, textL, Value.cells, Program.keyLits, Try.underlying148, cellsText, Try.underlying9, Try.underlying3, cellsStr, cellsInt]

theorem nums_inj : ∀ {a b : List Int}, (∀ x ∈ a, 0 ≤ x ∧ x < 256) → (∀ x ∈ b, 0 ≤ x ∧ x < 256) → (a.map fun n => UInt8.ofNat n.toNat) = (b.map fun n => UInt8.ofNat n.toNat) → a = b
  | [], [], _, _, _ => rfl
  | [], _ :: _, _, _, h => by cases h
  | _ :: _, [], _, _, h => by cases h
  | x :: a, y :: b, ha, hb, h => by
    simp only [List.map_cons, List.cons.injEq] at h
    have hx := ha x (List.mem_cons_self ..)
    have hy := hb y (List.mem_cons_self ..)
    have h1 : (UInt8.ofNat x.toNat).toNat = (UInt8.ofNat y.toNat).toNat := by rw [h.1]
    simp only [UInt8.toNat_ofNat'] at h1
    have : x = y := by omega
    rw [this, nums_inj (fun z hz => ha z (List.mem_cons_of_mem _ hz)) (fun z hz => hb z (List.mem_cons_of_mem _ hz)) h.2]

structure TextOk (bs : List Int) (al : Int) : Prop where
  len : bs.length ≤ 64
  byte : ∀ x ∈ bs, 0 ≤ x ∧ x < 256
  wf : (Lit.int .i64 al).wf = true

theorem TextOk.key {bs : List Int} {al : Int} (h : TextOk bs al) : keyOf Try.prog 148 (textV bs al) = some (textL bs al) := keyOf_text bs al (by have := h.len; unfold maxLen; omega) h.wf

theorem textL_inj {bs bs' : List Int} {al al' : Int} (h : TextOk bs al) (h' : TextOk bs' al') (e : textL bs al = textL bs' al') : bs = bs' ∧ al = al' := by
  have h1 := h.key
  rw [e] at h1
  have h2 := keyText.inj h1 h'.key
  unfold textV at h2
  simp only [Value.agg.injEq, Array.mk.injEq, List.cons.injEq, Value.string.injEq, Value.int.injEq, and_true, true_and] at h2
  refine ⟨nums_inj h.byte h'.byte ?_, h2.2⟩
  have := congrArg (fun s : ByteArray => s.data.toList) h2.1
  exact this

/-- the map holds the texts that stand -/
structure SeenAt (D : DataW Unit) (seen : M.Seen) : Prop where
  isMap : IsMap D
  has_ : ∀ bs al, TextOk bs al → has D (textL bs al) = (M.look seen bs al).isSome
  at_ : ∀ bs al x, TextOk bs al → M.look seen bs al = some x → ∀ z, D.atKey (textL bs al) z = .lit (.int .i64 x)

theorem SeenAt.nil : SeenAt (.map []) [] := ⟨isMap_empty, fun _ _ _ => rfl, fun _ _ _ _ h => by cases h⟩

theorem SeenAt.put {D : DataW Unit} {seen : M.Seen} (h : SeenAt D seen) {bs : List Int} {al x : Int} (ht : TextOk bs al) : SeenAt (D.put (textL bs al) (.lit (.int .i64 x))) ((bs, al, x) :: seen) := by
  refine ⟨h.isMap.put _ _, fun bs' al' ht' => ?_, fun bs' al' y ht' hl z => ?_⟩
  · by_cases e : bs = bs' ∧ al = al'
    · obtain ⟨rfl, rfl⟩ := e
      rw [has_put_same h.isMap (by trivial)]
      simp [M.look]
    · rw [has_put_other (fun e' => e (by have := textL_inj ht' ht e'; exact ⟨this.1.symm, this.2.symm⟩)), h.has_ _ _ ht']
      simp [M.look, e]
  · by_cases e : bs = bs' ∧ al = al'
    · obtain ⟨rfl, rfl⟩ := e
      rw [atKey_put_same h.isMap (by trivial)]
      simp [M.look] at hl
      rw [hl]
    · rw [atKey_put_other (fun e' => e (by have := textL_inj ht' ht e'; exact ⟨this.1.symm, this.2.symm⟩))]
      simp [M.look, e] at hl
      exact h.at_ _ _ _ ht' hl z

theorem align_ne {d : Int} (hd : M.AlignOk d) : d ≠ 0 := by rcases hd with rfl | rfl | rfl | rfl | rfl <;> decide

/-- layout.next -/
theorem next_any (a d : Int) (h0 : 0 ≤ a) (h1 : a ≤ 1000000) (hd : M.AlignOk d) (w : World) :
    Calls Try.prog 64 #[.int .i64 a, .int .i64 d] w fun e w' => e = .returned (.int .i64 (M.next a d)) ∧ w' = w := by
  have hb := M.next_bounds h0 hd
  have hp := hd.pos
  have hq : (a + d - 1).tdiv d = (a + d - 1) / d := Int.tdiv_eq_ediv_of_nonneg (by omega)
  have hz := align_ne hd
  have hr : 0 ≤ (a + d - 1) / d ∧ (a + d - 1) / d ≤ a + d - 1 := by
    rcases hd with rfl | rfl | rfl | rfl | rfl <;> omega
  unfold M.next at hb ⊢
  generalize hQ : (a + d - 1) / d = q at *
  go_enter Try.func64, Try.ntmps64
  go_wp2
  go_ret
  exact ⟨rfl, rfl⟩

end Go.Proofs.Ytebhbhbhcoijpaa
