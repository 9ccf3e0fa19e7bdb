/-
  The archives' closed fact: taken.
-/
import Derived.Test.YtebhbhbhcoijpaaArChX
import Derived.Test.YtebhbhbhcoijpaaArFx
import Derived.Test.YtebhbhbhcoijpaaTwo
import Derived.Test.YtebhbhbhcoijpaaPartVar
import Derived.Test.YtebhbhbhcoijpaaSameAll
namespace Go.Proofs.Ytebhbhbhcoijpaa
open Go Go.RowKit
set_option linter.unusedVariables false
attribute [local go_sem] lat_cell

def tpB : M.Prt := ⟨[frgB], [dfnB]⟩
def tRel : M.Rel := ⟨0, 1, ⟨#[119]⟩, 0, 0⟩

theorem bytes_blk {w : World} {B : Nat} {t : TypeId} {fr : Nat × Nat} {bs : List Int} (hb : ∀ b ∈ bs, 0 ≤ b ∧ b < 256) (hl : bs.length ≤ maxLen) (h : w.heap[B]? = some (.cells (bs.map (Value.int .u8)).toArray t fr)) (c : Nat) :
    BytesAt w (.slice (some ⟨B, 0, none⟩) bs.length c) bs := by
  refine ⟨⟨_, _, rfl, hl, .inr ⟨B, 0, rfl, fun j i hj hi => ?_⟩⟩, hb⟩
  have e : 0 + j * 1 + i = j := by omega
  rw [e, cellB h]
  simp [hj]

/-- a fragment alone, in a block of its own -/
theorem frag_blk {w : World} {B : Nat} {f : M.Frg} {bv rv : Value} (h : w.heap[B]? = some (.cells #[.int .i64 f.sect, .int .i64 f.align, .string f.group, bv, .int .i64 f.size, rv] 43 (0, 0))) (hb : BytesAt w bv f.bytes) (hr : RelsAt w rv f.rels) (hg : f.group.size ≤ maxLen) : FragsAt w (.slice (some ⟨B, 0, none⟩) 1 1) [f] := by
  refine ⟨fun _ i => ((#[.int .i64 f.sect, .int .i64 f.align, .string f.group, bv, .int .i64 f.size, rv] : Array Value)[i]?).getD (.int .i64 0), one_at (fun i => cellB h i) (fun i hi => ?_), fun j hj => ?_⟩
  · rcases (by omega : i = 0 ∨ i = 1 ∨ i = 2 ∨ i = 3 ∨ i = 4 ∨ i = 5) with rfl | rfl | rfl | rfl | rfl | rfl <;> rfl
  · obtain rfl : j = 0 := by simp at hj; omega
    exact ⟨rfl, rfl, rfl, hb, rfl, hr, hg⟩
theorem def_blk {w : World} {B : Nat} {d : M.Dfn} (h : w.heap[B]? = some (.cells #[.string d.name, .int .i64 d.kind, .int .i64 d.frag, .int .i64 d.pos, .int .i64 d.size, .int .i64 d.align] 69 (0, 0))) (hg : d.name.size ≤ maxLen) : DefsAt w (.slice (some ⟨B, 0, none⟩) 1 1) [d] := by
  refine ⟨one_at (fun i => cellB h i) (fun i hi => ?_), fun x hx => ?_⟩
  · rcases (by omega : i = 0 ∨ i = 1 ∨ i = 2 ∨ i = 3 ∨ i = 4 ∨ i = 5) with rfl | rfl | rfl | rfl | rfl | rfl <;> rfl
  · rw [List.mem_singleton.1 hx]; exact hg
theorem bytes_none (w : World) : BytesAt w (.slice none 0 0) [] := ⟨⟨none, 0, rfl, Nat.zero_le _, .inl rfl⟩, fun b hb => by cases hb⟩
theorem rels_none (w : World) : RelsAt w (.slice none 0 0) [] := ⟨⟨none, 0, rfl, Nat.zero_le _, .inl rfl⟩, fun b hb => by cases hb⟩

/-- a part of one fragment and one definition, made in place -/
theorem mk_part {X : World} (f : M.Frg) (d : M.Dfn) (bv rv : Value) (hb : BytesAt X bv f.bytes) (hr : RelsAt X rv f.rels) (hg : f.group.size ≤ maxLen) (hn : d.name.size ≤ maxLen) :
    Below X.heap.size X (((X.alloc (.cells #[.int .i64 f.sect, .int .i64 f.align, .string f.group, bv, .int .i64 f.size, rv] 43)).alloc (.cells #[.string d.name, .int .i64 d.kind, .int .i64 d.frag, .int .i64 d.pos, .int .i64 d.size, .int .i64 d.align] 69)).alloc (.cells #[.slice (some ⟨X.heap.size, 0, none⟩) 1 1, .slice (some ⟨X.heap.size + 1, 0, none⟩) 1 1] 25)) ∧
    Var (((X.alloc (.cells #[.int .i64 f.sect, .int .i64 f.align, .string f.group, bv, .int .i64 f.size, rv] 43)).alloc (.cells #[.string d.name, .int .i64 d.kind, .int .i64 d.frag, .int .i64 d.pos, .int .i64 d.size, .int .i64 d.align] 69)).alloc (.cells #[.slice (some ⟨X.heap.size, 0, none⟩) 1 1, .slice (some ⟨X.heap.size + 1, 0, none⟩) 1 1] 25)) (X.heap.size + 1 + 1) (some ⟨X.heap.size, 0, none⟩) (some ⟨X.heap.size + 1, 0, none⟩) 1 1 ⟨[f], [d]⟩ := by
  have b1 : Below X.heap.size X (X.alloc (.cells #[.int .i64 f.sect, .int .i64 f.align, .string f.group, bv, .int .i64 f.size, rv] 43)) := (Below.refl _ _).alloc (Nat.le_refl _) _
  have h1 := frag_blk (heap_alloc_new X (.cells #[.int .i64 f.sect, .int .i64 f.align, .string f.group, bv, .int .i64 f.size, rv] 43)) (hb.later b1) (hr.later b1) hg
  have sz1 : (X.alloc (.cells #[.int .i64 f.sect, .int .i64 f.align, .string f.group, bv, .int .i64 f.size, rv] 43)).heap.size = X.heap.size + 1 := by simp
  generalize X.alloc (.cells #[.int .i64 f.sect, .int .i64 f.align, .string f.group, bv, .int .i64 f.size, rv] 43) = Y1 at *
  have b2 : Below Y1.heap.size Y1 (Y1.alloc (.cells #[.string d.name, .int .i64 d.kind, .int .i64 d.frag, .int .i64 d.pos, .int .i64 d.size, .int .i64 d.align] 69)) := (Below.refl _ _).alloc (Nat.le_refl _) _
  have h2 := def_blk (heap_alloc_new Y1 (.cells #[.string d.name, .int .i64 d.kind, .int .i64 d.frag, .int .i64 d.pos, .int .i64 d.size, .int .i64 d.align] 69)) hn
  have h1' := h1.later b2
  have sz2 : (Y1.alloc (.cells #[.string d.name, .int .i64 d.kind, .int .i64 d.frag, .int .i64 d.pos, .int .i64 d.size, .int .i64 d.align] 69)).heap.size = X.heap.size + 1 + 1 := by simp [sz1]
  rw [sz1] at h2
  generalize Y1.alloc (.cells #[.string d.name, .int .i64 d.kind, .int .i64 d.frag, .int .i64 d.pos, .int .i64 d.size, .int .i64 d.align] 69) = Y2 at *
  have b12 := b1.trans (b2.mono b1.size)
  refine ⟨b12.alloc b12.size _, ?_⟩
  have := var_new (p := ⟨[f], [d]⟩) h1' h2
  rwa [sz2] at this

/-- a row that holds something has a block -/
theorem own_some {w : World} {B k n : Nat} {e : TypeId} {v : Value} {xs : List Value} (h : w.ownsRow B e k v n xs) (hn : 0 < n) : ∃ g c, v = .slice (some ⟨g, 0, none⟩) n c := by
  rcases h.2 with ⟨_, h0⟩ | ⟨g, cap, cur, h1, _⟩
  · omega
  · exact ⟨g, cap, h1⟩

theorem tB_ok : M.checkPart tpB = 0 := by decide +kernel

/-- an item of one part, and one of three, made in place -/
theorem mk_items {X : World} (pa pb pc pd : M.Prt) (fa da fb db fc dc fd dd : Value) (ha : FragsAt X fa pa.frags ∧ DefsAt X da pa.defs) (hb : FragsAt X fb pb.frags ∧ DefsAt X db pb.defs) (hc : FragsAt X fc pc.frags ∧ DefsAt X dc pc.defs) (hd : FragsAt X fd pd.frags ∧ DefsAt X dd pd.defs) :
    Below X.heap.size X (((X.alloc (.cells #[fa, da] 25)).alloc (.cells #[fb, db, fc, dc, fd, dd] 25)).alloc (.cells #[.bool false, .slice (some ⟨X.heap.size, 0, none⟩) 1 1, .bool true, .slice (some ⟨X.heap.size + 1, 0, none⟩) 3 3] 63)) ∧
    ItemsAt (((X.alloc (.cells #[fa, da] 25)).alloc (.cells #[fb, db, fc, dc, fd, dd] 25)).alloc (.cells #[.bool false, .slice (some ⟨X.heap.size, 0, none⟩) 1 1, .bool true, .slice (some ⟨X.heap.size + 1, 0, none⟩) 3 3] 63)) (.slice (some ⟨X.heap.size + 1 + 1, 0, none⟩) 2 2) [⟨false, [pa]⟩, ⟨true, [pb, pc, pd]⟩] := by
  have b1 : Below X.heap.size X (X.alloc (.cells #[fa, da] 25)) := (Below.refl _ _).alloc (Nat.le_refl _) _
  have q1 := heap_alloc_new X (.cells #[fa, da] 25)
  have sz1 : (X.alloc (.cells #[fa, da] 25)).heap.size = X.heap.size + 1 := by simp
  generalize X.alloc (.cells #[fa, da] 25) = Y1 at *
  have b2 : Below Y1.heap.size Y1 (Y1.alloc (.cells #[fb, db, fc, dc, fd, dd] 25)) := (Below.refl _ _).alloc (Nat.le_refl _) _
  have q2 := heap_alloc_new Y1 (.cells #[fb, db, fc, dc, fd, dd] 25)
  have q1' := (b2.block _ (Array.getElem?_eq_some_iff.1 q1).1).trans q1
  have sz2 : (Y1.alloc (.cells #[fb, db, fc, dc, fd, dd] 25)).heap.size = X.heap.size + 1 + 1 := by simp [sz1]
  rw [sz1] at q2
  generalize Y1.alloc (.cells #[fb, db, fc, dc, fd, dd] 25) = Y2 at *
  have b12 := b1.trans (b2.mono b1.size)
  have b3 : Below Y2.heap.size Y2 (Y2.alloc (.cells #[.bool false, .slice (some ⟨X.heap.size, 0, none⟩) 1 1, .bool true, .slice (some ⟨X.heap.size + 1, 0, none⟩) 3 3] 63)) := (Below.refl _ _).alloc (Nat.le_refl _) _
  have q3 := heap_alloc_new Y2 (.cells #[.bool false, .slice (some ⟨X.heap.size, 0, none⟩) 1 1, .bool true, .slice (some ⟨X.heap.size + 1, 0, none⟩) 3 3] 63)
  have q1'' := (b3.block _ (Array.getElem?_eq_some_iff.1 q1').1).trans q1'
  have q2'' := (b3.block _ (Array.getElem?_eq_some_iff.1 q2).1).trans q2
  rw [sz2] at q3
  generalize Y2.alloc (.cells #[.bool false, .slice (some ⟨X.heap.size, 0, none⟩) 1 1, .bool true, .slice (some ⟨X.heap.size + 1, 0, none⟩) 3 3] 63) = Y3 at *
  have b123 := b12.trans (b3.mono b12.size)
  refine ⟨b123, ?_⟩
  have hP1 : PartsAt Y3 (.slice (some ⟨X.heap.size, 0, none⟩) 1 1) [pa] := parts_of (es := [⟨pa, fa, da⟩]) (blk_slice pent0 pentCells (fun _ => rfl) [⟨pa, fa, da⟩] (by unfold maxLen; simp) 1 q1'') (fun e he => by
    rw [List.mem_singleton.1 he]; exact ⟨ha.1.later b123, ha.2.later b123⟩)
  have hP3 : PartsAt Y3 (.slice (some ⟨X.heap.size + 1, 0, none⟩) 3 3) [pb, pc, pd] := parts_of (es := [⟨pb, fb, db⟩, ⟨pc, fc, dc⟩, ⟨pd, fd, dd⟩]) (blk_slice pent0 pentCells (fun _ => rfl) [⟨pb, fb, db⟩, ⟨pc, fc, dc⟩, ⟨pd, fd, dd⟩] (by unfold maxLen; simp) 3 q2'') (fun e he => by
    simp only [List.mem_cons, List.not_mem_nil, or_false] at he
    rcases he with rfl | rfl | rfl
    · exact ⟨hb.1.later b123, hb.2.later b123⟩
    · exact ⟨hc.1.later b123, hc.2.later b123⟩
    · exact ⟨hd.1.later b123, hd.2.later b123⟩)
  refine items_of (es := [⟨⟨false, [pa]⟩, .slice (some ⟨X.heap.size, 0, none⟩) 1 1⟩, ⟨⟨true, [pb, pc, pd]⟩, .slice (some ⟨X.heap.size + 1, 0, none⟩) 3 3⟩]) (blk_slice ient0 ientCells (fun _ => rfl) [⟨⟨false, [pa]⟩, .slice (some ⟨X.heap.size, 0, none⟩) 1 1⟩, ⟨⟨true, [pb, pc, pd]⟩, .slice (some ⟨X.heap.size + 1, 0, none⟩) 3 3⟩] (by unfold maxLen; simp) 2 q3) (fun e he => ?_)
  simp only [List.mem_cons, List.not_mem_nil, or_false] at he
  rcases he with rfl | rfl
  · exact ⟨_, _, rfl, hP1⟩
  · exact ⟨_, _, rfl, hP3⟩

theorem ownB {a3 a4 : Option Addr} {X : World} (hf : FragsAt X (.slice a3 1 1) tpB.frags) (hd : DefsAt X (.slice a4 1 1) tpB.defs) :
    Calls Try.prog 76 #[.agg #[.slice a3 1 1, .slice a4 1 1]] X fun e w' => Below X.heap.size X w' ∧ ∃ gF yF gD yD bv rv, e = .returned (.agg #[.slice (some ⟨gF, 0, none⟩) 1 yF, .slice (some ⟨gD, 0, none⟩) 1 yD]) ∧ PR w' X.heap.size [⟨frgB, bv, rv⟩] [dfnB] (.slice (some ⟨gF, 0, none⟩) 1 yF) (.slice (some ⟨gD, 0, none⟩) 1 yD) := by
  refine (ownPart_any tpB a3 a4 1 1 X hf hd (room_of ((M.ok_iff tpB).1 tB_ok))).mono ?_
  rintro e w' ⟨hb, es, vF, vD, rfl, hP, hes, _⟩
  refine ⟨hb, ?_⟩
  have hl : es.length = 1 := by have := congrArg List.length hes; simpa [tpB] using this
  obtain ⟨e1, rfl⟩ := List.length_eq_one_iff.1 hl
  have hef : e1.f = frgB := by simpa [tpB] using hes
  obtain ⟨f1, bv, rv⟩ := e1
  simp only at hef
  subst hef
  obtain ⟨gF, yF, rfl⟩ := own_some hP.rowF (by simp)
  obtain ⟨gD, yD, rfl⟩ := own_some hP.rowD (by decide)
  exact ⟨gF, yF, gD, yD, bv, rv, rfl, hP⟩

structure SameT (X : World) (k1 k2 : Nat) (a1 a2 x1 x2 : Option Addr) (c1 c2 y1 y2 : Nat) : Prop where
  go : ∀ W, Below X.heap.size X W → Calls Try.prog 10 #[.agg #[.slice a1 k1 c1, .slice a2 k2 c2], .agg #[.slice x1 k1 y1, .slice x2 k2 y2]] W fun e w' => e = .returned (.bool true) ∧ Below W.heap.size W w'

/-- a part of a row against a variable that holds the same -/
theorem same_c {X : World} {a : Option Addr} {c m n : Nat} {ps : List M.Prt} {p : M.Prt} {x1 x2 : Option Addr} {y1 y2 : Nat} (hm : ps.length = m) (hP : PartsAt X (.slice a m c) ps) (j : Nat) (hj : j < m) (he : ps.getD j M.nil = p) (hv : Var X n x1 x2 y1 y2 p) (k1 k2 : Nat) (h1 : p.frags.length = k1) (h2 : p.defs.length = k2) :
    ∃ b off a1 a2 c1 c2, a = some ⟨b, off, none⟩ ∧ X.cell? ⟨b, off + j * 2, none⟩ = some (.slice a1 k1 c1) ∧ X.cell? ⟨b, off + j * 2 + 1, none⟩ = some (.slice a2 k2 c2)
      ∧ SameT X k1 k2 a1 a2 x1 x2 c1 c2 y1 y2 := by
  subst hm
  obtain ⟨b, off, a1, a2, c1, c2, rfl, q0, q1, hf, hd⟩ := part_at hP j hj
  subst h1 h2
  rw [he] at q0 q1 hf hd
  refine ⟨b, off, a1, a2, c1, c2, rfl, q0, q1, ⟨fun W hW => ?_⟩⟩
  have := same_any p.frags p.frags p.defs p.defs a1 a2 x1 x2 c1 c2 y1 y2 W (hf.later hW) (hd.later hW) (hv.fr.later hW) (hv.df.later hW)
  rw [M.samePart_refl] at this
  exact this

set_option maxHeartbeats 8000000 in
set_option maxRecDepth 100000 in
theorem taken_true (w : World) : Calls Try.prog 32 #[] w fun e w' => e = .returned (.bool true) ∧ Below w.heap.size w w' := by
  go_enter Try.func32, Try.ntmps32
  go_upto_region 2 with (go_at_call 48; refine (two_any _).mono ?_; rintro e w1 ⟨a1, a2, a3, a4, rfl, hb1, hA, hAd, hB, hBd⟩)
  have v1 : Var (w1.alloc (.cells #[.slice a1 1 1, .slice a2 1 1] 25)) w1.heap.size a1 a2 1 1 M.pA := var_new (p := M.pA) hA hAd
  have v1 := v1.later ((Below.refl _ _).alloc (Nat.le_refl _) (.cells #[.slice a3 1 1, .slice a4 1 1] 25))
  have hbA : Below w1.heap.size w1 (w1.alloc (.cells #[.slice a1 1 1, .slice a2 1 1] 25)) := (Below.refl _ _).alloc (Nat.le_refl _) _
  have v2 : Var ((w1.alloc (.cells #[.slice a1 1 1, .slice a2 1 1] 25)).alloc (.cells #[.slice a3 1 1, .slice a4 1 1] 25)) (w1.heap.size + 1) a3 a4 1 1 tpB := by
    have := var_new (p := tpB) (hB.later hbA) (hBd.later hbA)
    simpa [tpB] using this
  have HX : Hid (Below w.heap.size w ((w1.alloc (.cells #[.slice a1 1 1, .slice a2 1 1] 25)).alloc (.cells #[.slice a3 1 1, .slice a4 1 1] 25))) := (hb1.alloc hb1.size _).alloc (by simpa using Nat.le_succ_of_le hb1.size) _
  clear hA hAd hB hBd hb1 hbA
  generalize (w1.alloc (.cells #[.slice a1 1 1, .slice a2 1 1] 25)).alloc (.cells #[.slice a3 1 1, .slice a4 1 1] 25) = X1 at *
  generalize w1.heap.size = n1 at *
  have V1 : Hid (Var X1 n1 a1 a2 1 1 M.pA) := v1
  have V2 : Hid (Var X1 (n1 + 1) a3 a4 1 1 tpB) := v2
  clear v1 v2
  go_upto_region 3 with fail
  obtain ⟨hB2, v3⟩ := mk_part (X := X1) ⟨2, 1, ⟨#[]⟩, [], 0, []⟩ ⟨⟨#[122]⟩, 1, 0, 0, 0, 0⟩ (.slice none 0 0) (.slice none 0 0) (bytes_none _) (rels_none _) (by unfold maxLen; decide) (by unfold maxLen; decide)
  simp only at hB2 v3
  generalize ((X1.alloc (.cells #[.int .i64 2, .int .i64 1, .string ⟨#[]⟩, .slice none 0 0, .int .i64 0, .slice none 0 0] 43)).alloc (.cells #[.string ⟨#[122]⟩, .int .i64 1, .int .i64 0, .int .i64 0, .int .i64 0, .int .i64 0] 69)).alloc (.cells #[.slice (some ⟨X1.heap.size, 0, none⟩) 1 1, .slice (some ⟨X1.heap.size + 1, 0, none⟩) 1 1] 25) = X2 at *
  have V1' : Hid (Var X2 n1 a1 a2 1 1 M.pA) := V1.out.later hB2
  have v2 := V2.out.later hB2
  have V3 : Hid (Var X2 (X1.heap.size + 1 + 1) (some ⟨X1.heap.size, 0, none⟩) (some ⟨X1.heap.size + 1, 0, none⟩) 1 1 M.pC) := v3
  have HX2 : Hid (Below w.heap.size w X2) := HX.out.trans (hB2.mono HX.out.size)
  have k0 : X2.cell? ⟨n1 + 1, 0, none⟩ = some (.slice a3 1 1) := v2.c0
  have k1 : X2.cell? ⟨n1 + 1, 1, none⟩ = some (.slice a4 1 1) := v2.c1
  have hl2 := v2.lt
  have KO : Hid (Calls Try.prog 76 #[.agg #[.slice a3 1 1, .slice a4 1 1]] X2 fun e w' => Below X2.heap.size X2 w' ∧ ∃ gF yF gD yD bv rv, e = .returned (.agg #[.slice (some ⟨gF, 0, none⟩) 1 yF, .slice (some ⟨gD, 0, none⟩) 1 yD]) ∧ PR w' X2.heap.size [⟨frgB, bv, rv⟩] [dfnB] (.slice (some ⟨gF, 0, none⟩) 1 yF) (.slice (some ⟨gD, 0, none⟩) 1 yD)) := ownB v2.fr v2.df
  clear V1 V2 v2 v3 hB2 HX
  generalize X1.heap.size = m1 at *
  go_upto_region 4 with (go_at_call 76; refine KO.out.mono ?_; rintro e w3 ⟨hb3, gF, yF, gD, yD, bv, rv, rfl, hP⟩)
  have hA3 : Below w3.heap.size w3 (w3.alloc (.cells #[.slice (some ⟨gF, 0, none⟩) 1 yF, .slice (some ⟨gD, 0, none⟩) 1 yD] 25)) := (Below.refl _ _).alloc (Nat.le_refl _) _
  have hq4 := heap_alloc_new w3 (.cells #[.slice (some ⟨gF, 0, none⟩) 1 yF, .slice (some ⟨gD, 0, none⟩) 1 yD] 25)
  have HX3 : Hid (Below X2.heap.size X2 (w3.alloc (.cells #[.slice (some ⟨gF, 0, none⟩) 1 yF, .slice (some ⟨gD, 0, none⟩) 1 yD] 25))) := hb3.trans (hA3.mono hb3.size)
  have HP3 : Hid (PR (w3.alloc (.cells #[.slice (some ⟨gF, 0, none⟩) 1 yF, .slice (some ⟨gD, 0, none⟩) 1 yD] 25)) X2.heap.size [⟨frgB, bv, rv⟩] [dfnB] (.slice (some ⟨gF, 0, none⟩) 1 yF) (.slice (some ⟨gD, 0, none⟩) 1 yD)) := hP.later hA3
  clear hb3 hP hA3 KO k0 k1 hl2
  generalize w3.alloc (.cells #[.slice (some ⟨gF, 0, none⟩) 1 yF, .slice (some ⟨gD, 0, none⟩) 1 yD] 25) = X3 at *
  generalize w3.heap.size = n4 at *
  have c40 : X3.cell? ⟨n4, 0, none⟩ = some (.slice (some ⟨gF, 0, none⟩) 1 yF) := cellB hq4 0
  have hl4 : n4 < X3.heap.size := (Array.getElem?_eq_some_iff.1 hq4).1
  obtain ⟨cur, hcur, hcs⟩ : ∃ cur, X3.heap[gF]? = some (.cells cur 43 (0, 0)) ∧ 6 ≤ cur.size := by
    rcases HP3.out.rowF.2 with ⟨h1, _⟩ | ⟨g, cap, cur, h1, _, h2, h3, _, h5, _⟩
    · cases h1
    · cases h1
      exact ⟨cur, h2, by simp at h3; omega⟩
  obtain ⟨u5, hu5⟩ : ∃ u, X3.cell? ⟨gF, 5, none⟩ = some u := by
    rw [cellB hcur]
    exact ⟨_, Array.getElem?_eq_getElem (by omega)⟩
  have f5 := frozenB hcur 5
  have hlF : gF < X3.heap.size := (Array.getElem?_eq_some_iff.1 hcur).1
  have hgF : X2.heap.size ≤ gF := (HP3.out.rowF.lt gF rfl).1
  go_upto_region 5 with fail
  have hsz : (X3.setCell ⟨gF, 5, none⟩ (.slice (some ⟨X3.heap.size, 0, none⟩) 1 1)).heap.size = X3.heap.size := by simp
  have hq5 := heap_alloc_new (X3.setCell ⟨gF, 5, none⟩ (.slice (some ⟨X3.heap.size, 0, none⟩) 1 1)) (.cells #[.int .i64 0, .int .i64 1, .string ⟨#[119]⟩, .int .i64 0, .int .i64 0] 121)
  rw [hsz] at hq5
  have HX4 : Hid (Below X2.heap.size X2 ((X3.setCell ⟨gF, 5, none⟩ (.slice (some ⟨X3.heap.size, 0, none⟩) 1 1)).alloc (.cells #[.int .i64 0, .int .i64 1, .string ⟨#[119]⟩, .int .i64 0, .int .i64 0] 121))) := (HX3.out.setCell hgF _).alloc (HX3.out.setCell hgF _).size _
  have V4 : Hid (Var ((X3.setCell ⟨gF, 5, none⟩ (.slice (some ⟨X3.heap.size, 0, none⟩) 1 1)).alloc (.cells #[.int .i64 0, .int .i64 1, .string ⟨#[119]⟩, .int .i64 0, .int .i64 0] 121)) n4 (some ⟨gF, 0, none⟩) (some ⟨gD, 0, none⟩) yF yD M.pD) := by
    have hrel : ((X3.setCell ⟨gF, 5, none⟩ (.slice (some ⟨X3.heap.size, 0, none⟩) 1 1)).alloc (.cells #[.int .i64 0, .int .i64 1, .string ⟨#[119]⟩, .int .i64 0, .int .i64 0] 121)).ownsRow X2.heap.size 121 5 (.slice (some ⟨X3.heap.size, 0, none⟩) 1 1) 1 ([tRel].flatMap encRel) :=
      ⟨rfl, .inr ⟨X3.heap.size, 1, _, rfl, HX3.out.size, hq5, Nat.le_refl _, by unfold maxLen; decide, rfl, rfl⟩⟩
    have hF := (row_set (i := 5) (u := .slice (some ⟨X3.heap.size, 0, none⟩) 1 1) HP3.out.rowF (by show 5 < 6; decide)).alloc (.cells #[.int .i64 0, .int .i64 1, .string ⟨#[119]⟩, .int .i64 0, .int .i64 0] 121)
    have hD := (row_setc (i := 5) (u := .slice (some ⟨X3.heap.size, 0, none⟩) 1 1) HP3.out.rowD hcur (by decide)).alloc (.cells #[.int .i64 0, .int .i64 1, .string ⟨#[119]⟩, .int .i64 0, .int .i64 0] 121)
    have hBy := (row_setc (i := 5) (u := .slice (some ⟨X3.heap.size, 0, none⟩) 1 1) (HP3.out.bytes ⟨frgB, bv, rv⟩ (List.mem_singleton.2 rfl)) hcur (by decide)).alloc (.cells #[.int .i64 0, .int .i64 1, .string ⟨#[119]⟩, .int .i64 0, .int .i64 0] 121)
    have hPR : PR ((X3.setCell ⟨gF, 5, none⟩ (.slice (some ⟨X3.heap.size, 0, none⟩) 1 1)).alloc (.cells #[.int .i64 0, .int .i64 1, .string ⟨#[119]⟩, .int .i64 0, .int .i64 0] 121)) X2.heap.size [⟨⟨1, 4, ⟨#[103]⟩, [7], 0, [tRel]⟩, bv, .slice (some ⟨X3.heap.size, 0, none⟩) 1 1⟩] [dfnB] (.slice (some ⟨gF, 0, none⟩) 1 yF) (.slice (some ⟨gD, 0, none⟩) 1 yD) := by
      refine ⟨hF, hD, fun e he => ?_, fun e he => ?_, HP3.out.smallD, fun e he => ?_⟩
      · rw [List.mem_singleton.1 he]; exact hBy
      · rw [List.mem_singleton.1 he]
        refine ⟨(HP3.out.small _ (List.mem_singleton.2 rfl)).1, (by unfold maxLen; decide : (1 : Nat) ≤ maxLen), fun r hr => ?_⟩
        rw [List.mem_singleton.1 hr]
        exact ⟨by unfold maxLen; decide, by decide⟩
      · rw [List.mem_singleton.1 he]; exact hrel
    have hne : n4 ≠ gF := fun e => by rw [e, hcur] at hq4; cases hq4
    refine ⟨?_, hPR.fragsAt, hPR.defsAt⟩
    rw [heap_alloc_old _ _ (by rw [hsz]; exact hl4), Below.heap_setCell _ _ _ _ hne]
    exact hq4
  clear hq5 hq4 HP3 HX3 c40 hl4 hcur hcs hu5 f5 hlF hgF hsz
  generalize (X3.setCell ⟨gF, 5, none⟩ (.slice (some ⟨X3.heap.size, 0, none⟩) 1 1)).alloc (.cells #[.int .i64 0, .int .i64 1, .string ⟨#[119]⟩, .int .i64 0, .int .i64 0] 121) = X4 at *
  have HW4 : Hid (Below w.heap.size w X4) := HX2.out.trans (HX4.out.mono HX2.out.size)
  have V1'' : Hid (Var X4 n1 a1 a2 1 1 M.pA) := V1'.out.later HX4.out
  have V3' : Hid (Var X4 (m1 + 1 + 1) (some ⟨m1, 0, none⟩) (some ⟨m1 + 1, 0, none⟩) 1 1 M.pC) := V3.out.later HX4.out
  clear V1' V3 HX2 HX4
  go_upto_region 6 with fail
  have bX : Below X4.heap.size X4 (X4.alloc (.cells #[.int .u8 5] 5)) := (Below.refl _ _).alloc (Nat.le_refl _) _
  have hby : BytesAt (X4.alloc (.cells #[.int .u8 5] 5)) (.slice (some ⟨X4.heap.size, 0, none⟩) 1 1) [5] := bytes_blk (bs := [5]) (by decide) (by unfold maxLen; decide) (heap_alloc_new X4 _) 1
  have szX : (X4.alloc (.cells #[.int .u8 5] 5)).heap.size = X4.heap.size + 1 := by simp
  obtain ⟨hB5, v5⟩ := mk_part (X := X4.alloc (.cells #[.int .u8 5] 5)) ⟨4, 2, ⟨#[]⟩, [5], 0, []⟩ ⟨⟨#[119]⟩, 2, 0, 0, 0, 0⟩ (.slice (some ⟨X4.heap.size, 0, none⟩) 1 1) (.slice none 0 0) hby (rels_none _) (by unfold maxLen; decide) (by unfold maxLen; decide)
  rw [szX] at hB5 v5
  simp only at hB5 v5
  have HB5 : Hid _ := bX.trans (hB5.mono (Nat.le_succ _))
  generalize (((X4.alloc (.cells #[.int .u8 5] 5)).alloc (.cells #[.int .i64 4, .int .i64 2, .string ⟨#[]⟩, .slice (some ⟨X4.heap.size, 0, none⟩) 1 1, .int .i64 0, .slice none 0 0] 43)).alloc (.cells #[.string ⟨#[119]⟩, .int .i64 2, .int .i64 0, .int .i64 0, .int .i64 0, .int .i64 0] 69)).alloc (.cells #[.slice (some ⟨X4.heap.size + 1, 0, none⟩) 1 1, .slice (some ⟨X4.heap.size + 1 + 1, 0, none⟩) 1 1] 25) = X5 at *
  have V5 : Hid (Var X5 (X4.heap.size + 1 + 1 + 1) (some ⟨X4.heap.size + 1, 0, none⟩) (some ⟨X4.heap.size + 1 + 1, 0, none⟩) 1 1 M.pW) := v5
  have VA : Hid (Var X5 n1 a1 a2 1 1 M.pA) := V1''.out.later HB5.out
  have VC : Hid (Var X5 (m1 + 1 + 1) (some ⟨m1, 0, none⟩) (some ⟨m1 + 1, 0, none⟩) 1 1 M.pC) := V3'.out.later HB5.out
  have VD : Hid (Var X5 n4 (some ⟨gF, 0, none⟩) (some ⟨gD, 0, none⟩) yF yD M.pD) := V4.out.later HB5.out
  have HW5 : Hid (Below w.heap.size w X5) := HW4.out.trans (HB5.out.mono HW4.out.size)
  clear hB5 v5 hby szX bX V1'' V3' V4 HW4 HB5
  generalize X4.heap.size = m4 at *
  obtain ⟨hB6, hI6⟩ := mk_items (X := X5) M.pA M.pW M.pC M.pD (.slice a1 1 1) (.slice a2 1 1) (.slice (some ⟨m4 + 1, 0, none⟩) 1 1) (.slice (some ⟨m4 + 1 + 1, 0, none⟩) 1 1) (.slice (some ⟨m1, 0, none⟩) 1 1) (.slice (some ⟨m1 + 1, 0, none⟩) 1 1) (.slice (some ⟨gF, 0, none⟩) 1 yF) (.slice (some ⟨gD, 0, none⟩) 1 yD) ⟨VA.out.fr, VA.out.df⟩ ⟨V5.out.fr, V5.out.df⟩ ⟨VC.out.fr, VC.out.df⟩ ⟨VD.out.fr, VD.out.df⟩
  have cA0 : X5.cell? ⟨n1, 0, none⟩ = some (.slice a1 1 1) := VA.out.c0
  have cA1 : X5.cell? ⟨n1, 1, none⟩ = some (.slice a2 1 1) := VA.out.c1
  have cW0 : X5.cell? ⟨m4 + 1 + 1 + 1, 0, none⟩ = some (.slice (some ⟨m4 + 1, 0, none⟩) 1 1) := V5.out.c0
  have cW1 : X5.cell? ⟨m4 + 1 + 1 + 1, 1, none⟩ = some (.slice (some ⟨m4 + 1 + 1, 0, none⟩) 1 1) := V5.out.c1
  have cC0 : X5.cell? ⟨m1 + 1 + 1, 0, none⟩ = some (.slice (some ⟨m1, 0, none⟩) 1 1) := VC.out.c0
  have cC1 : X5.cell? ⟨m1 + 1 + 1, 1, none⟩ = some (.slice (some ⟨m1 + 1, 0, none⟩) 1 1) := VC.out.c1
  have cD0 : X5.cell? ⟨n4, 0, none⟩ = some (.slice (some ⟨gF, 0, none⟩) 1 yF) := VD.out.c0
  have cD1 : X5.cell? ⟨n4, 1, none⟩ = some (.slice (some ⟨gD, 0, none⟩) 1 yD) := VD.out.c1
  have lA := VA.out.lt
  have lW := V5.out.lt
  have lC := VC.out.lt
  have lD := VD.out.lt
  have KC : Hid (Calls Try.prog 31 #[.slice (some ⟨X5.heap.size + 1 + 1, 0, none⟩) 2 2, .slice none 0 0] (((X5.alloc (.cells #[.slice a1 1 1, .slice a2 1 1] 25)).alloc (.cells #[.slice (some ⟨m4 + 1, 0, none⟩) 1 1, .slice (some ⟨m4 + 1 + 1, 0, none⟩) 1 1, .slice (some ⟨m1, 0, none⟩) 1 1, .slice (some ⟨m1 + 1, 0, none⟩) 1 1, .slice (some ⟨gF, 0, none⟩) 1 yF, .slice (some ⟨gD, 0, none⟩) 1 yD] 25)).alloc (.cells #[.bool false, .slice (some ⟨X5.heap.size, 0, none⟩) 1 1, .bool true, .slice (some ⟨X5.heap.size + 1, 0, none⟩) 3 3] 63)) fun e w' => ∃ v, e = .returned (.tuple #[v, .int .i64 0]) ∧ ChOut (((X5.alloc (.cells #[.slice a1 1 1, .slice a2 1 1] 25)).alloc (.cells #[.slice (some ⟨m4 + 1, 0, none⟩) 1 1, .slice (some ⟨m4 + 1 + 1, 0, none⟩) 1 1, .slice (some ⟨m1, 0, none⟩) 1 1, .slice (some ⟨m1 + 1, 0, none⟩) 1 1, .slice (some ⟨gF, 0, none⟩) 1 yF, .slice (some ⟨gD, 0, none⟩) 1 yD] 25)).alloc (.cells #[.bool false, .slice (some ⟨X5.heap.size, 0, none⟩) 1 1, .bool true, .slice (some ⟨X5.heap.size + 1, 0, none⟩) 3 3] 63)) w' v [M.pA, M.pD, M.pW]) := by
    have := choose_any [⟨false, [M.pA]⟩, ⟨true, [M.pW, M.pC, M.pD]⟩] [] (some ⟨X5.heap.size + 1 + 1, 0, none⟩) none 2 0 _ hI6 (strsAt_nil _)
    rw [M.choose1] at this
    exact this
  have HB6 : Hid _ := hB6
  clear hI6 hB6
  go_upto_region 7 with (go_at_call 31; refine KC.out.mono ?_; rintro e w7 ⟨v, rfl, hO⟩)
  have HO := HB6.out.trans (hO.1.mono HB6.out.size)
  have hPs := hO.parts
  obtain ⟨a7, c7, rfl⟩ := hPs.form
  obtain ⟨b7, o7, e1, e2, g1, g2, rfl, q0, q1, KA⟩ := same_c (m := 3) rfl hPs 0 (by decide) rfl (VA.out.later HO) 1 1 rfl rfl
  obtain ⟨b8, o8, e3, e4, g3, g4, h8, q2, q3, KD⟩ := same_c (m := 3) rfl hPs 1 (by decide) rfl (VD.out.later HO) 1 1 rfl rfl
  cases h8
  obtain ⟨b9, o9, e5, e6, g5, g6, h9, q4, q5, KW⟩ := same_c (m := 3) rfl hPs 2 (by decide) rfl (V5.out.later HO) 1 1 rfl rfl
  cases h9
  have cA0' := (VA.out.later HO).c0
  have cA1' := (VA.out.later HO).c1
  have cD0' := (VD.out.later HO).c0
  have cD1' := (VD.out.later HO).c1
  have cW0' := (V5.out.later HO).c0
  have cW1' := (V5.out.later HO).c1
  have HWZ : Hid (Below w.heap.size w w7) := HW5.out.trans (HO.mono HW5.out.size)
  simp only [Nat.zero_mul, Nat.one_mul, Nat.add_zero] at q0 q1 q2 q3 q4 q5
  simp only [show M.pA.frags.length = 1 from rfl, show M.pA.defs.length = 1 from rfl, show M.pD.frags.length = 1 from rfl, show M.pD.defs.length = 1 from rfl, show M.pW.frags.length = 1 from rfl, show M.pW.defs.length = 1 from rfl] at cA0' cA1' cD0' cD1' cW0' cW1'
  clear hPs HO hO HB6 KC cA0 cA1 cW0 cW1 cC0 cC1 cD0 cD1 lA lW lC lD VA V5 VC VD HW5
  simp only [List.length_cons, List.length_nil, Nat.zero_add, Nat.reduceAdd]
  refine wp_region_lat (by kernel_rfl) (by kernel_rfl) ?_
  intro hne
  repeat (go_big_quiet_step ((first | (go_at_call 10; refine lat_of (SameT.go (X := w7) ?_ _ (Lat.below _)); first | exact KA | exact KD | exact KW))))

  refine wpQuiet_nil ?_
  intro w1 hb1
  have hb := lat_out hb1
  clear hne hb1
  go_wp2
  go_ret
  exact ⟨rfl, HWZ.out.trans (hb.mono HWZ.out.size)⟩

end Go.Proofs.Ytebhbhbhcoijpaa
