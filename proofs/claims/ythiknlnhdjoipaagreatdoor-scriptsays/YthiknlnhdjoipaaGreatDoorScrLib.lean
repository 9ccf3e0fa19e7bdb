/-
  The library's contracts in the shape that the script's walks use: strings are written, numbers told, texts cut.
-/
import Derived.Test.YthiknlnhdjoipaaGreatDoorScMA
import Derived.Test.YthiknlnhdjoipaaGreatDoorScrShelf
import Derived.Test.YthiknlnhdjoipaaGreatDoorChecked
import Derived.Test.YthiknlnhdjoipaaGreatDoorQQ
import Derived.Test.YthiknlnhdjoipaaGreatDoorMemA
import Derived.Lib.SmallJoins
import Derived.Lib.AppendIntMem
namespace Go.Proofs.YthiknlnhdjoipaaGreatDoor
open Go Go.RowKit Go.Shelf
set_option linter.unusedVariables false

def lays167r : Go.Shelf.Ren := ⟨fun | 167 => 15 | 240 => 42 | 276 => 74 | n => n, fun | 0 => 0 | 4 => 4 | 5 => 5 | 9 => 9 | 20 => 20 | 37 => 37 | 70 => 36 | 72 => 39 | 75 => 42 | 80 => 61 | 164 => 120 | n => n, fun | n => n⟩
theorem lays167 : Lays.n167 Tryz.prog lays167r := {
  mixed := by kernel_rfl
  f167 := Tryz.func15.trans (congrArg some (by kernel_rfl))
  f240 := Tryz.func42.trans (congrArg some (by kernel_rfl))
  f276 := Tryz.func74.trans (congrArg some (by kernel_rfl))
  t0 := Tryz.underlying0
  a0 := Tryz.isAgg0
  z0 := Tryz.sizeOf0
  v0 := Tryz.zeroValue0
  t4 := Tryz.underlying4
  a4 := Tryz.isAgg4
  z4 := Tryz.sizeOf4
  v4 := Tryz.zeroValue4
  t5 := Tryz.underlying5
  a5 := Tryz.isAgg5
  z5 := Tryz.sizeOf5
  v5 := Tryz.zeroValue5
  t9 := Tryz.underlying9
  a9 := Tryz.isAgg9
  z9 := Tryz.sizeOf9
  v9 := Tryz.zeroValue9
  t20 := Tryz.underlying20
  a20 := Tryz.isAgg20
  z20 := Tryz.sizeOf20
  v20 := Tryz.zeroValue20
  t37 := Tryz.underlying37
  a37 := Tryz.isAgg37
  z37 := Tryz.sizeOf37
  v37 := Tryz.zeroValue37
  t70 := Tryz.underlying36
  a70 := Tryz.isAgg36
  z70 := Tryz.sizeOf36
  v70 := Tryz.zeroValue36
  t72 := Tryz.underlying39
  a72 := Tryz.isAgg39
  z72 := Tryz.sizeOf39
  v72 := Tryz.zeroValue39
  t75 := Tryz.underlying42
  a75 := Tryz.isAgg42
  z75 := Tryz.sizeOf42
  v75 := Tryz.zeroValue42
  t164 := Tryz.underlying120
  a164 := Tryz.isAgg120
  z164 := Tryz.sizeOf120
  v164 := Tryz.zeroValue120 }
theorem extra167 : Builder.Extra Tryz.prog lays167r := {
  sizeBuilder := by kernel_rfl
  liesBuilder := by kernel_rfl
  t5 := Tryz.underlying5
  a5 := Tryz.isAgg5
  z5 := Tryz.sizeOf5
  v5 := Tryz.zeroValue5
  infoByte := by kernel_rfl
  cellsByte := by kernel_rfl
  sizeByte := by kernel_rfl
  neB5 := by decide }

/-- a builder, block b, made from B on, that holds this text -/
def Bld (w : World) (B b : Nat) (l : M.Txt) : Prop := Lib.IsBuilderF 39 5 B b (Lib.byteCells l) w

theorem Bld.lt {w : World} {B b : Nat} {l : M.Txt} (h : Bld w B b l) : B ≤ b ∧ b < w.heap.size := by
  rcases h with h | h <;> exact ⟨h.1, h.lt⟩

theorem Bld.later {w w' : World} {B b : Nat} {l : M.Txt} (h : Bld w B b l) (hb : Below w.heap.size w w') : Bld w' B b l := by
  have hlt := h.lt.2
  rcases h with ⟨hB, v, h1, h2, h3⟩ | ⟨hB, v, h1, h2, h3⟩
  · exact .inl ⟨hB, v, (hb.block b hlt).trans h1, h2.kept (grown_of_below hb Option.none) (by cases hv : v.ownBlock <;> simp), h3⟩
  · exact .inr ⟨hB, v, (hb.block b hlt).trans h1, h2.kept (grown_of_below hb Option.none) (by cases hv : v.ownBlock <;> simp), h3⟩

theorem bld_new (w : World) : Bld (w.alloc (.cells #[.pointer none, .slice none 0 0] 39)) w.heap.size w.heap.size [] :=
  Lib.IsBuilderF.of (Lib.fresh_isBuilder _ _ w)

theorem kept_of_below {e : TypeId} {b : Option Nat} {w w' : World} (h : Below w.heap.size w w') : Lib.OthersKept e b w w' := fun k o hk _ _ =>
  (h.block k (Array.getElem?_eq_some_iff.1 hk).1).trans hk

theorem wstring_any (B b : Nat) (l : M.Txt) (s : ByteArray) (w : World) (h : Bld w B b l) (hlen : l.length + s.size ≤ 140737488355328) :
    Calls Tryz.prog 13 #[.pointer (some ⟨b, 0, none⟩), .string s] w fun e w' => e = .returned (.tuple #[.int .i64 s.size, .nilIface]) ∧ Bld w' B b (l ++ M.txt s) ∧ Below B w w' ∧ Lib.OthersKept 5 (some b) w w' := by
  have hb := h.lt
  refine (Any.Builder_WriteString_k (P := Tryz.prog) (ρ := Tryz.lays156_ren) { Tryz.lays156 with } Tryz.extra156 B b (Lib.byteCells l) s w h (by rw [Lib.byteCells_length]; exact hlen) (by omega)).mono ?_
  rintro e w' ⟨he, h1, h2, h3⟩
  refine ⟨he, .inr ?_, h2, h3⟩
  have e : Lib.byteCells (l ++ M.txt s) = Lib.byteCells l ++ Lib.strCells s := by simp [Lib.byteCells, Lib.strCells, M.txt]
  rw [e]
  exact h1

theorem wbyte_any (B b : Nat) (l : M.Txt) (c : UInt8) (w : World) (h : Bld w B b l) (hlen : l.length + 1 ≤ 140737488355328) :
    Calls Tryz.prog 15 #[.pointer (some ⟨b, 0, none⟩), .int .u8 c.toNat] w fun e w' => e = .returned .nilIface ∧ Bld w' B b (l ++ [c]) ∧ Below B w w' ∧ Lib.OthersKept 5 (some b) w w' := by
  have hb := h.lt
  refine (Any.Builder_WriteByte_k (P := Tryz.prog) (ρ := lays167r) lays167 extra167 B b (Lib.byteCells l) c.toNat w h (by rw [Lib.byteCells_length]; exact hlen) (by omega)).mono ?_
  rintro e w' ⟨he, h1, h2, h3⟩
  refine ⟨he, .inr ?_, h2, h3⟩
  have e : Lib.byteCells (l ++ [c]) = Lib.byteCells l ++ [.int .u8 c.toNat] := by simp [Lib.byteCells]
  rw [e]
  exact h1

theorem bstring_any (B b : Nat) (l : M.Txt) (w : World) (h : Bld w B b l) :
    Calls Tryz.prog 20 #[.pointer (some ⟨b, 0, none⟩)] w fun e w' => e = .returned (.string (M.str l)) ∧ Below B w w' := by
  have hb := h.lt
  refine (Any.Builder_String_any_k (P := Tryz.prog) (ρ := Tryz.lays169_ren) Tryz.lays169 Tryz.extra169 B b l w h (by omega)).mono ?_
  rintro e w' ⟨he, h1, h2, h3⟩
  exact ⟨he, h2⟩

theorem join_any (bk o c : Nat) (xs : List ByteArray) (w : World) (hcells : ∀ (j : Nat) x, xs[j]? = some x → w.cell? ⟨bk, o + j, none⟩ = some (.string x)) (hbk : bk < w.heap.size) (hN : xs.length ≤ 1000) (hcap : xs.length ≤ c)
    (hlen : (Lib.join (xs.map M.txt) [32]).length ≤ 140737488355328) :
    Calls Tryz.prog 14 #[.slice (some ⟨bk, o, none⟩) xs.length c, .string ⟨#[32]⟩] w fun e w' => e = .returned (.string (M.str (Lib.join (xs.map M.txt) [32]))) ∧ Below w.heap.size w w' :=
  Any.strings_Join (P := Tryz.prog) (ρ := Tryz.lays156_ren) Tryz.lays156 Tryz.extra156 bk o c xs ⟨#[32]⟩ w hcells hbk (by omega) hcap hlen

/-- what the variables hold on which the script leans -/
structure Glob (w : World) : Prop where
  size : 9 ≤ w.heap.size
  pow : Lib.TabIs Tryz.prog w "internal/strconv.uint64pow10" .u64 Lib.pow10Tab
  sects : ∀ i, i < 6 → w.cell? ⟨0, i, none⟩ = some (.string (M.str (M.sectT.getD i [])))
  kinds : ∀ i, i < 6 → w.cell? ⟨1, i, none⟩ = some (.string (M.str (M.kindT.getD i [])))
  defs : ∀ i, i < 6 → w.cell? ⟨2, i, none⟩ = some (.string (M.str (M.defT.getD i [])))
  most : ∃ m, w.cell? ⟨5, 0, none⟩ = some (.int .i64 m)
  syn : ∃ ev, w.cell? ⟨6, 0, none⟩ = some ev ∧ (ev = .nilIface ∨ ∃ te pe, ev = .iface te pe)
  rng : ∃ ev, w.cell? ⟨7, 0, none⟩ = some ev ∧ (ev = .nilIface ∨ ∃ te pe, ev = .iface te pe)

theorem Glob.on {w w' : World} {B : Nat} (h : Glob w) (hb : Below B w w') (hB : 9 ≤ B) : Glob w' := by
  have hs := hb.size
  have hc : ∀ g i, g < 9 → w'.cell? ⟨g, i, none⟩ = w.cell? ⟨g, i, none⟩ := fun g i hg => hb.cell (p := ⟨g, i, none⟩) (Nat.lt_of_lt_of_le hg hB)
  refine ⟨Nat.le_trans h.size hs, ?_, fun i hi => (hc _ _ (by decide)).trans (h.sects i hi), fun i hi => (hc _ _ (by decide)).trans (h.kinds i hi), fun i hi => (hc _ _ (by decide)).trans (h.defs i hi), ?_, ?_, ?_⟩
  · have hg : Tryz.prog.globalNamed "internal/strconv.uint64pow10" = some 8 := by kernel_rfl
    have := h.pow
    unfold Lib.TabIs World.var? at this ⊢
    rw [hg] at this ⊢
    simp only [Option.bind_some] at this ⊢
    rw [hb.block _ (by omega)]
    exact this
  · obtain ⟨m, hm⟩ := h.most; exact ⟨m, (hc _ _ (by decide)).trans hm⟩
  · obtain ⟨m, hm, h2⟩ := h.syn; exact ⟨m, (hc _ _ (by decide)).trans hm, h2⟩
  · obtain ⟨m, hm, h2⟩ := h.rng; exact ⟨m, (hc _ _ (by decide)).trans hm, h2⟩

theorem Glob.later {w w' : World} (h : Glob w) (hb : Below w.heap.size w w') : Glob w' := h.on hb h.size

def Fits (n : Int) : Prop := -9223372036854775808 ≤ n ∧ n ≤ 9223372036854775807

theorem itoa_any (n : Int) (hn : Fits n) (w : World) (h : Glob w) :
    Calls Tryz.prog 16 #[.int .i64 n] w fun e w' => e = .returned (.string (M.str (Lib.itoa n))) ∧ Below w.heap.size w w' := by
  refine (Any.strconv_Itoa (P := Tryz.prog) (ρ := Tryz.lays171_ren) Tryz.lays171 n hn.1 hn.2 w h.pow).mono ?_
  rintro e w' ⟨he, k, os, rfl⟩
  exact ⟨he, Lib.below_grow _ _ (Nat.le_refl _) _ _⟩

theorem cut_any (s : ByteArray) (sep : ByteArray) (w : World) (h : Glob w) (hs : s.size ≤ 100000) :
    Calls Tryz.prog 21 #[.string s, .string sep] w fun e w' => e = .returned (.tuple #[.string (M.str (Lib.cut (M.txt s) (M.txt sep)).1), .string (M.str (Lib.cut (M.txt s) (M.txt sep)).2.1), .bool (Lib.cut (M.txt s) (M.txt sep)).2.2]) ∧ Below w.heap.size w w' := by
  obtain ⟨m, hm⟩ := h.most
  refine (Any.strings_Cut (P := Tryz.prog) (ρ := Tryz.lays145_ren) Tryz.lays145 s sep m w (by omega) hm).mono ?_
  rintro e w' ⟨he, n, rfl⟩
  exact ⟨he, rfl, rfl, rfl, Nat.le_refl _, fun _ _ => rfl⟩

theorem atoi_ok (s : ByteArray) (v : Int) (w : World) (hs : s.size ≤ 100000) (h : Lib.atoiAll (M.txt s) = .ok v) :
    Calls Tryz.prog 112 #[.string s] w fun e w' => e = .returned (.tuple #[.int .i64 v, .nilIface]) ∧ Below w.heap.size w w' := by
  refine (Any.strconv_Atoi_ok (P := Tryz.prog) (ρ := Tryz.lays172_ren) Tryz.lays172 s (by omega) v h w).mono ?_
  rintro e w' ⟨he, hw⟩
  refine ⟨he, ?_⟩
  rcases hw with rfl | ⟨t, rfl⟩
  · exact Below.refl _ _
  · exact Lib.bytesWorld_below _ _ _

theorem atoi_no (s : ByteArray) (w : World) (hs : s.size ≤ 100000) (hG : Glob w) (h : Lib.atoiAll (M.txt s) = .«syntax» ∨ Lib.atoiAll (M.txt s) = .range) :
    Calls Tryz.prog 112 #[.string s] w fun e w' => (∃ n N, e = .returned (.tuple #[.int .i64 n, .iface 141 (.pointer (some ⟨N, 0, none⟩))])) ∧ Below w.heap.size w w' := by
  rcases h with h | h
  · obtain ⟨ev, h1, h2⟩ := hG.syn
    refine (Any.strconv_Atoi_syntax (P := Tryz.prog) (ρ := Tryz.lays172_ren) Tryz.lays172 s (by omega) h ev w h1 h2).mono ?_
    rintro e w' ⟨N, he, _, _, hb⟩
    exact ⟨⟨_, N, he⟩, hb⟩
  · obtain ⟨ev, h1, h2⟩ := hG.rng
    refine (Any.strconv_Atoi_range (P := Tryz.prog) (ρ := Tryz.lays172_ren) Tryz.lays172 s (by omega) h ev w h1 h2).mono ?_
    rintro e w' ⟨N, he, _, _, hb⟩
    exact ⟨⟨_, N, he⟩, hb⟩

end Go.Proofs.YthiknlnhdjoipaaGreatDoor
