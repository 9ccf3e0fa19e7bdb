/-
  A region that draws its order and whose callees make memory of their own but turn nothing that was there: one walk, in the order of the text. (Over the kit's 'wp_region_quiet', at the class of the worlds that have grown.)
-/
import Derived.WalkKit
import Derived.Below
import Derived.BigQuiet
import Derived.Deep.RegionHeld
namespace Go.Proofs.Ytebhbhbhcoijpaa
open Go Go.RowKit

/-- a world that has grown out of W -/
structure Lat (W : World) where
  world : World
  below : Below W.heap.size W world

def lat (W : World) (x : Lat W) : World := x.world

theorem lat_cell (W : World) (x : Lat W) (a : Addr) (h : (W.cell? a).isSome = true) : (lat W x).cell? a = W.cell? a := by
  obtain ⟨u, hu⟩ := Option.isSome_iff_exists.1 h
  exact x.below.cell (World.block_lt_of_cell? W a hu)

theorem lat_of {P : Program} {f : FuncId} {args : Array Value} {W : World} {x : Lat W} {v : Value}
    (h : Calls P f args (lat W x) fun e w' => e = .returned v ∧ Below (lat W x).heap.size (lat W x) w') : Calls P f args (lat W x) fun e w'' => e = .returned v ∧ ∃ y : Lat W, w'' = lat W y :=
  h.mono fun _ w'' ⟨he, hb⟩ => ⟨he, ⟨w'', x.below.trans (hb.mono x.below.size)⟩, rfl⟩

theorem lat_of_same {P : Program} {f : FuncId} {args : Array Value} {W : World} {x : Lat W} {v : Value}
    (h : Calls P f args (lat W x) fun e w' => e = .returned v ∧ w' = lat W x) : Calls P f args (lat W x) fun e w'' => e = .returned v ∧ ∃ y : Lat W, w'' = lat W y :=
  h.mono fun _ _ ⟨he, hb⟩ => ⟨he, x, hb⟩

theorem wp_region_lat {P : Program} {id : Nat} {Q : Exit → Act → World → Prop} {a : Act} {w : World} {l : List Oper} (hm : P.follows .mixedOrders = true) (hB : Region.lexB .any l.toArray = true)
    (h : Nonempty (Lat w) → wpQuiet P l.toArray (fun w' => ∃ x : Lat w, w' = lat w x) (fun a' => ∀ w', (∃ x : Lat w, w' = lat w x) → Q .normal a' w') l a) : (Code.region id l.toArray true).wp P Q a w :=
  wp_region_quiet (C := fun w' => ∃ x : Lat w, w' = lat w x) hm hB ⟨⟨_, (Below.refl _ _).drew⟩, rfl⟩ (by simpa using h ⟨⟨_, Below.refl _ _⟩⟩)

theorem bcell {W w1 : World} (hb : Below W.heap.size W w1) : (∀ b o, b < W.heap.size → w1.cell? ⟨b, o, none⟩ = W.cell? ⟨b, o, none⟩) ∧ (∀ b o, b < W.heap.size → w1.frozen? ⟨b, o, none⟩ = W.frozen? ⟨b, o, none⟩) :=
  ⟨fun b o h => hb.cell (p := ⟨b, o, none⟩) h, fun b o h => hb.frozen (p := ⟨b, o, none⟩) h⟩

theorem lat_out {W w1 : World} (h : ∃ x : Lat W, w1 = lat W x) : Below W.heap.size W w1 := by
  obtain ⟨x, rfl⟩ := h
  exact x.below

end Go.Proofs.Ytebhbhbhcoijpaa
