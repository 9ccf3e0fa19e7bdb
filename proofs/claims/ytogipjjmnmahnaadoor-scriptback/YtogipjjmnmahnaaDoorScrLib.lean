/-
  The library's contracts in the shape that the script's walks use: strings are written, numbers told, texts cut.
-/
import Derived.Test.YtogipjjmnmahnaaDoorScrModel
import Derived.Test.YtogipjjmnmahnaaDoorScrShelf
import Derived.Test.YtogipjjmnmahnaaDoorChecked
import Derived.Test.YtogipjjmnmahnaaDoorQTail
import Derived.Test.YtogipjjmnmahnaaDoorOwnRow
import Derived.Lib.SmallJoins
import Derived.Lib.AppendIntMem
namespace Go.Proofs.YtogipjjmnmahnaaDoor
open Go Go.RowKit Go.Shelf
set_option linter.unusedVariables false

def lays167r : Go.Shelf.Ren := ⟨fun | 167 => 13 | 240 => 26 | 276 => 43 | n => n, fun | 0 => 0 | 4 => 4 | 5 => 5 | 9 => 9 | 20 => 20 | 37 => 36 | 70 => 35 | 72 => 38 | 75 => 41 | 80 => 60 | 164 => 89 | n => n, fun | n => n⟩
theorem lays167 : Lays.n167 Tryd.prog lays167r := {
  mixed := by kernel_rfl
  f167 := Tryd.func13.trans (congrArg some (by kernel_rfl))
  f240 := Tryd.func26.trans (congrArg some (by kernel_rfl))
  f276 := Tryd.func43.trans (congrArg some (by kernel_rfl))
  t0 := Tryd.underlying0
  a0 := Tryd.isAgg0
  z0 := Tryd.sizeOf0
  v0 := Tryd.zeroValue0
  t4 := Tryd.underlying4
  a4 := Tryd.isAgg4
  z4 := Tryd.sizeOf4
  v4 := Tryd.zeroValue4
  t5 := Tryd.underlying5
  a5 := Tryd.isAgg5
  z5 := Tryd.sizeOf5
  v5 := Tryd.zeroValue5
  t9 := Tryd.underlying9
  a9 := Tryd.isAgg9
  z9 := Tryd.sizeOf9
  v9 := Tryd.zeroValue9
  t20 := Tryd.underlying20
  a20 := Tryd.isAgg20
  z20 := Tryd.sizeOf20
  v20 := Tryd.zeroValue20
  t37 := Tryd.underlying36
  a37 := Tryd.isAgg36
  z37 := Tryd.sizeOf36
  v37 := Tryd.zeroValue36
  t70 := Tryd.underlying35
  a70 := Tryd.isAgg35
  z70 := Tryd.sizeOf35
  v70 := Tryd.zeroValue35
  t72 := Tryd.underlying38
  a72 := Tryd.isAgg38
  z72 := Tryd.sizeOf38
  v72 := Tryd.zeroValue38
  t75 := Tryd.underlying41
  a75 := Tryd.isAgg41
  z75 := Tryd.sizeOf41
  v75 := Tryd.zeroValue41
  t164 := Tryd.underlying89
  a164 := Tryd.isAgg89
  z164 := Tryd.sizeOf89
  v164 := Tryd.zeroValue89 }
theorem extra167 : Builder.Extra Tryd.prog lays167r := {
  sizeBuilder := by kernel_rfl
  liesBuilder := by kernel_rfl
  t5 := Tryd.underlying5
  a5 := Tryd.isAgg5
  z5 := Tryd.sizeOf5
  v5 := Tryd.zeroValue5
  infoByte := by kernel_rfl
  cellsByte := by kernel_rfl
  sizeByte := by kernel_rfl
  neB5 := by decide }

/-- a builder, block b, made from B on, that holds this text -/
def Bld (w : World) (B b : Nat) (l : M.Txt) : Prop := Lib.IsBuilderF 38 5 B b (Lib.byteCells l) w

theorem Bld.lt {w : World} {B b : Nat} {l : M.Txt} (h : Bld w B b l) : B ≤ b ∧ b < w.heap.size := by
  rcases h with h | h <;> exact ⟨h.1, h.lt⟩

theorem Bld.later {w w' : World} {B b : Nat} {l : M.Txt} (h : Bld w B b l) (hb : Below w.heap.size w w') : Bld w' B b l := by
  have hlt := h.lt.2
  rcases h with ⟨hB, v, h1, h2, h3⟩ | ⟨hB, v, h1, h2, h3⟩
  · exact .inl ⟨hB, v, (hb.block b hlt).trans h1, h2.kept (grown_of_below hb Option.none) (by cases hv : v.ownBlock <;> simp), h3⟩
  · exact .inr ⟨hB, v, (hb.block b hlt).trans h1, h2.kept (grown_of_below hb Option.none) (by cases hv : v.ownBlock <;> simp), h3⟩

theorem bld_new (w : World) : Bld (w.alloc (.cells #[.pointer none, .slice none 0 0] 38)) w.heap.size w.heap.size [] :=
  Lib.IsBuilderF.of (Lib.fresh_isBuilder _ _ w)

theorem kept_of_below {e : TypeId} {b : Option Nat} {w w' : World} (h : Below w.heap.size w w') : Lib.OthersKept e b w w' := fun k o hk _ _ =>
  (h.block k (Array.getElem?_eq_some_iff.1 hk).1).trans hk

theorem wstring_any (B b : Nat) (l : M.Txt) (s : ByteArray) (w : World) (h : Bld w B b l) (hlen : l.length + s.size ≤ 140737488355328) :
    Calls Tryd.prog 11 #[.pointer (some ⟨b, 0, none⟩), .string s] w fun e w' => e = .returned (.tuple #[.int .i64 s.size, .nilIface]) ∧ Bld w' B b (l ++ M.txt s) ∧ Below B w w' ∧ Lib.OthersKept 5 (some b) w w' := by
  have hb := h.lt
  refine (Any.Builder_WriteString_k (P := Tryd.prog) (ρ := Tryd.lays156_ren) { Tryd.lays156 with } Tryd.extra156 B b (Lib.byteCells l) s w h (by rw [Lib.byteCells_length]; exact hlen) (by omega)).mono ?_
  rintro e w' ⟨he, h1, h2, h3⟩
  refine ⟨he, .inr ?_, h2, h3⟩
  have e : Lib.byteCells (l ++ M.txt s) = Lib.byteCells l ++ Lib.strCells s := by simp [Lib.byteCells, Lib.strCells, M.txt]
  rw [e]
  exact h1

theorem wbyte_any (B b : Nat) (l : M.Txt) (c : UInt8) (w : World) (h : Bld w B b l) (hlen : l.length + 1 ≤ 140737488355328) :
    Calls Tryd.prog 13 #[.pointer (some ⟨b, 0, none⟩), .int .u8 c.toNat] w fun e w' => e = .returned .nilIface ∧ Bld w' B b (l ++ [c]) ∧ Below B w w' ∧ Lib.OthersKept 5 (some b) w w' := by
  have hb := h.lt
  refine (Any.Builder_WriteByte_k (P := Tryd.prog) (ρ := lays167r) lays167 extra167 B b (Lib.byteCells l) c.toNat w h (by rw [Lib.byteCells_length]; exact hlen) (by omega)).mono ?_
  rintro e w' ⟨he, h1, h2, h3⟩
  refine ⟨he, .inr ?_, h2, h3⟩
  have e : Lib.byteCells (l ++ [c]) = Lib.byteCells l ++ [.int .u8 c.toNat] := by simp [Lib.byteCells]
  rw [e]
  exact h1

theorem bstring_any (B b : Nat) (l : M.Txt) (w : World) (h : Bld w B b l) :
    Calls Tryd.prog 18 #[.pointer (some ⟨b, 0, none⟩)] w fun e w' => e = .returned (.string (M.str l)) ∧ Below B w w' := by
  have hb := h.lt
  refine (Any.Builder_String_any_k (P := Tryd.prog) (ρ := Tryd.lays169_ren) Tryd.lays169 Tryd.extra169 B b l w h (by omega)).mono ?_
  rintro e w' ⟨he, h1, h2, h3⟩
  exact ⟨he, h2⟩

theorem join_any (bk o c : Nat) (xs : List ByteArray) (w : World) (hcells : ∀ (j : Nat) x, xs[j]? = some x → w.cell? ⟨bk, o + j, none⟩ = some (.string x)) (hbk : bk < w.heap.size) (hN : xs.length ≤ 1000) (hcap : xs.length ≤ c)
    (hlen : (Lib.join (xs.map M.txt) [32]).length ≤ 140737488355328) :
    Calls Tryd.prog 12 #[.slice (some ⟨bk, o, none⟩) xs.length c, .string ⟨#[32]⟩] w fun e w' => e = .returned (.string (M.str (Lib.join (xs.map M.txt) [32]))) ∧ Below w.heap.size w w' :=
  Any.strings_Join (P := Tryd.prog) (ρ := Tryd.lays156_ren) Tryd.lays156 Tryd.extra156 bk o c xs ⟨#[32]⟩ w hcells hbk (by omega) hcap hlen

/-- what the variables hold on which the script leans -/
structure Glob (w : World) : Prop where
  size : 9 ≤ w.heap.size
  pow : Lib.TabIs Tryd.prog w "internal/strconv.uint64pow10" .u64 Lib.pow10Tab
  sects : ∀ i, i < 6 → w.cell? ⟨0, i, none⟩ = some (.string (M.str (M.sectT.getD i [])))
  kinds : ∀ i, i < 6 → w.cell? ⟨1, i, none⟩ = some (.string (M.str (M.kindT.getD i [])))
  defs : ∀ i, i < 6 → w.cell? ⟨2, i, none⟩ = some (.string (M.str (M.defT.getD i [])))
  most : ∃ m, w.cell? ⟨3, 0, none⟩ = some (.int .i64 m)
  syn : ∃ ev, w.cell? ⟨7, 0, none⟩ = some ev ∧ (ev = .nilIface ∨ ∃ te pe, ev = .iface te pe)
  rng : ∃ ev, w.cell? ⟨8, 0, none⟩ = some ev ∧ (ev = .nilIface ∨ ∃ te pe, ev = .iface te pe)

theorem Glob.on {w w' : World} {B : Nat} (h : Glob w) (hb : Below B w w') (hB : 9 ≤ B) : Glob w' := by
  have hs := hb.size
  have hc : ∀ g i, g < 9 → w'.cell? ⟨g, i, none⟩ = w.cell? ⟨g, i, none⟩ := fun g i hg => hb.cell (p := ⟨g, i, none⟩) (Nat.lt_of_lt_of_le hg hB)
  refine ⟨Nat.le_trans h.size hs, ?_, fun i hi => (hc _ _ (by decide)).trans (h.sects i hi), fun i hi => (hc _ _ (by decide)).trans (h.kinds i hi), fun i hi => (hc _ _ (by decide)).trans (h.defs i hi), ?_, ?_, ?_⟩
  · have hg : Tryd.prog.globalNamed "internal/strconv.uint64pow10" = some 4 := by kernel_rfl
    have := h.pow
    unfold Lib.TabIs World.var? at this ⊢
    rw [hg] at this ⊢
    simp only [Option.bind_some] at this ⊢
    rw [hb.block _ (by omega)]
    exact this
  · obtain ⟨m, hm⟩ := h.most; exact ⟨m, (hc _ _ (by decide)).trans hm⟩
  · obtain ⟨m, hm, h2⟩ := h.syn; exact ⟨m, (hc _ _ (by decide)).trans hm, h2⟩
  · obtain ⟨m, hm, h2⟩ := h.rng; exact ⟨m, (hc _ _ (by decide)).trans hm, h2⟩

theorem Glob.later {w w' : World} (h : Glob w) (hb : Below w.heap.size w w') : Glob w' := h.on hb h.size

def Fits (n : Int) : Prop := -9223372036854775808 ≤ n ∧ n ≤ 9223372036854775807

theorem itoa_any (n : Int) (hn : Fits n) (w : World) (h : Glob w) :
    Calls Tryd.prog 14 #[.int .i64 n] w fun e w' => e = .returned (.string (M.str (Lib.itoa n))) ∧ Below w.heap.size w w' := by
  refine (Any.strconv_Itoa (P := Tryd.prog) (ρ := Tryd.lays171_ren) Tryd.lays171 n hn.1 hn.2 w h.pow).mono ?_
  rintro e w' ⟨he, k, os, rfl⟩
  exact ⟨he, Lib.below_grow _ _ (Nat.le_refl _) _ _⟩

theorem cut_any (s : ByteArray) (sep : ByteArray) (w : World) (h : Glob w) (hs : s.size ≤ 100000) :
    Calls Tryd.prog 19 #[.string s, .string sep] w fun e w' => e = .returned (.tuple #[.string (M.str (Lib.cut (M.txt s) (M.txt sep)).1), .string (M.str (Lib.cut (M.txt s) (M.txt sep)).2.1), .bool (Lib.cut (M.txt s) (M.txt sep)).2.2]) ∧ Below w.heap.size w w' := by
  obtain ⟨m, hm⟩ := h.most
  refine (Any.strings_Cut (P := Tryd.prog) (ρ := Tryd.lays145_ren) Tryd.lays145 s sep m w (by omega) hm).mono ?_
  rintro e w' ⟨he, n, rfl⟩
  exact ⟨he, rfl, rfl, rfl, Nat.le_refl _, fun _ _ => rfl⟩

theorem atoi_ok (s : ByteArray) (v : Int) (w : World) (hs : s.size ≤ 100000) (h : Lib.atoiAll (M.txt s) = .ok v) :
    Calls Tryd.prog 65 #[.string s] w fun e w' => e = .returned (.tuple #[.int .i64 v, .nilIface]) ∧ Below w.heap.size w w' := by
  refine (Any.strconv_Atoi_ok (P := Tryd.prog) (ρ := Tryd.lays172_ren) Tryd.lays172 s (by omega) v h w).mono ?_
  rintro e w' ⟨he, hw⟩
  refine ⟨he, ?_⟩
  rcases hw with rfl | ⟨t, rfl⟩
  · exact Below.refl _ _
  · exact Lib.bytesWorld_below _ _ _

theorem atoi_no (s : ByteArray) (w : World) (hs : s.size ≤ 100000) (hG : Glob w) (h : Lib.atoiAll (M.txt s) = .«syntax» ∨ Lib.atoiAll (M.txt s) = .range) :
    Calls Tryd.prog 65 #[.string s] w fun e w' => (∃ n N, e = .returned (.tuple #[.int .i64 n, .iface 125 (.pointer (some ⟨N, 0, none⟩))])) ∧ Below w.heap.size w w' := by
  rcases h with h | h
  · obtain ⟨ev, h1, h2⟩ := hG.syn
    refine (Any.strconv_Atoi_syntax (P := Tryd.prog) (ρ := Tryd.lays172_ren) Tryd.lays172 s (by omega) h ev w h1 h2).mono ?_
    rintro e w' ⟨N, he, _, _, hb⟩
    exact ⟨⟨_, N, he⟩, hb⟩
  · obtain ⟨ev, h1, h2⟩ := hG.rng
    refine (Any.strconv_Atoi_range (P := Tryd.prog) (ρ := Tryd.lays172_ren) Tryd.lays172 s (by omega) h ev w h1 h2).mono ?_
    rintro e w' ⟨N, he, _, _, hb⟩
    exact ⟨⟨_, N, he⟩, hb⟩

end Go.Proofs.YtogipjjmnmahnaaDoor
