/-
  ScriptBack: for every part and every text the law returns true, and each reads behind the call as it read before. Condition: the listed variables (the script's three tables of words, and variables of the library) hold when the call begins what the program's text lays; the card ties them to that text.
-/
import Derived.Test.YtogipjjmnmahnaaDoorScrBackRow
namespace Go.Proofs.YtogipjjmnmahnaaDoor.scriptBack
open Go.ChangeShapes Go.WideShapes Go.ChangeAt Go.RowKit
set_option linter.unusedVariables false

/-- one start that fits: an empty part, no text -/
def wargs : Array Value := #[.agg #[.slice none 0 0, .slice none 0 0], .string ⟨#[]⟩]

def putCells (c : Array Value) : Obj → Obj
  | .cells _ t frozen => .cells c t frozen
  | o => o

def db32 : Array Value := #[.int .u8 0, .int .u8 1, .int .u8 28, .int .u8 2, .int .u8 29, .int .u8 14, .int .u8 24, .int .u8 3, .int .u8 30, .int .u8 22, .int .u8 20, .int .u8 15, .int .u8 25, .int .u8 17, .int .u8 4, .int .u8 8, .int .u8 31, .int .u8 27, .int .u8 13, .int .u8 23, .int .u8 21, .int .u8 19, .int .u8 16, .int .u8 7, .int .u8 26, .int .u8 12, .int .u8 18, .int .u8 6, .int .u8 11, .int .u8 5, .int .u8 10, .int .u8 9]
def db64 : Array Value := #[.int .u8 0, .int .u8 1, .int .u8 56, .int .u8 2, .int .u8 57, .int .u8 49, .int .u8 28, .int .u8 3, .int .u8 61, .int .u8 58, .int .u8 42, .int .u8 50, .int .u8 38, .int .u8 29, .int .u8 17, .int .u8 4, .int .u8 62, .int .u8 47, .int .u8 59, .int .u8 36, .int .u8 45, .int .u8 43, .int .u8 51, .int .u8 22, .int .u8 53, .int .u8 39, .int .u8 33, .int .u8 30, .int .u8 24, .int .u8 18, .int .u8 12, .int .u8 5, .int .u8 63, .int .u8 55, .int .u8 48, .int .u8 27, .int .u8 60, .int .u8 41, .int .u8 37, .int .u8 16, .int .u8 46, .int .u8 35, .int .u8 44, .int .u8 21, .int .u8 52, .int .u8 32, .int .u8 23, .int .u8 11, .int .u8 54, .int .u8 26, .int .u8 40, .int .u8 15, .int .u8 34, .int .u8 20, .int .u8 31, .int .u8 10, .int .u8 25, .int .u8 14, .int .u8 19, .int .u8 9, .int .u8 13, .int .u8 8, .int .u8 7, .int .u8 6]
def pow10 : Array Value := #[.int .u64 1, .int .u64 10, .int .u64 100, .int .u64 1000, .int .u64 10000, .int .u64 100000, .int .u64 1000000, .int .u64 10000000, .int .u64 100000000, .int .u64 1000000000, .int .u64 10000000000, .int .u64 100000000000, .int .u64 1000000000000, .int .u64 10000000000000, .int .u64 100000000000000, .int .u64 1000000000000000, .int .u64 10000000000000000, .int .u64 100000000000000000, .int .u64 1000000000000000000, .int .u64 10000000000000000000]
def sects : Array Value := #[.string ⟨#[]⟩, .string ⟨#[99, 111, 100, 101]⟩, .string ⟨#[102, 105, 120, 101, 100]⟩, .string ⟨#[116, 101, 120, 116]⟩, .string ⟨#[100, 97, 116, 97]⟩, .string ⟨#[122, 101, 114, 111]⟩]
def kinds : Array Value := #[.string ⟨#[]⟩, .string ⟨#[97, 98, 115, 49]⟩, .string ⟨#[97, 98, 115, 50]⟩, .string ⟨#[114, 101, 108, 49]⟩, .string ⟨#[114, 101, 108, 50]⟩, .string ⟨#[]⟩]
def sorts : Array Value := #[.string ⟨#[]⟩, .string ⟨#[115, 116, 114, 111, 110, 103]⟩, .string ⟨#[119, 101, 97, 107]⟩, .string ⟨#[99, 111, 109, 109, 111, 110]⟩, .string ⟨#[]⟩, .string ⟨#[]⟩]

theorem laid_met (os : Os) : laidMet Tryd.prog Rows.scriptBackRow.laid ((let w := World.holding Tryd.prog os ⟨#[], #[], []⟩; let h := (((((w.heap.modify 5 (putCells db32)).modify 6 (putCells db64)).modify 4 (putCells pow10)).modify 0 (putCells sects)).modify 1 (putCells kinds)).modify 2 (putCells sorts); let h := (h.modify 8 (putCells #[.iface 137 (.pointer (some ⟨h.size, 0, none⟩))])).modify 7 (putCells #[.iface 137 (.pointer (some ⟨h.size + 1, 0, none⟩))]); { w with heap := (h.push (.cells #[.string ⟨#[118, 97, 108, 117, 101, 32, 111, 117, 116, 32, 111, 102, 32, 114, 97, 110, 103, 101]⟩] 139)).push (.cells #[.string ⟨#[105, 110, 118, 97, 108, 105, 100, 32, 115, 121, 110, 116, 97, 120]⟩] 139) } : World).forCall (fun _ _ => 0) ⟨#[], wargs, []⟩).memory :=
  laidMet_of_run' 8 (by kernel_rfl) (by kernel_rfl)
theorem reads (os : Os) {H : Type} (enc : TypeId × Value → H) : ∃ ds places, DataW.whole enc Tryd.prog ((let w := World.holding Tryd.prog os ⟨#[], #[], []⟩; let h := (((((w.heap.modify 5 (putCells db32)).modify 6 (putCells db64)).modify 4 (putCells pow10)).modify 0 (putCells sects)).modify 1 (putCells kinds)).modify 2 (putCells sorts); let h := (h.modify 8 (putCells #[.iface 137 (.pointer (some ⟨h.size, 0, none⟩))])).modify 7 (putCells #[.iface 137 (.pointer (some ⟨h.size + 1, 0, none⟩))]); { w with heap := (h.push (.cells #[.string ⟨#[118, 97, 108, 117, 101, 32, 111, 117, 116, 32, 111, 102, 32, 114, 97, 110, 103, 101]⟩] 139)).push (.cells #[.string ⟨#[105, 110, 118, 97, 108, 105, 100, 32, 115, 121, 110, 116, 97, 120]⟩] 139) } : World).forCall (fun _ _ => 0) ⟨#[], wargs, []⟩).memory Tryd.f3.params.toList Rows.scriptBackSpec.vars false wargs.toList 8 = some (ds, [], places) :=
  ⟨[.agg [.nil, .nil], .lit (.string [])], [], by kernel_rfl⟩

set_option maxRecDepth 100000 in
theorem lifted (os : Os) (started : os.Started) (H : Type) (enc : TypeId × Value → H) (F : Stop.Interp) :
    ReturnsInHanded {} Tryd.checked os 3 .any ((OpenSpec.ofChange Rows.scriptBackSpec).preRow enc Tryd.prog Tryd.f3 Rows.scriptBackRow.domain false Rows.scriptBackRow.laid) (((OpenSpec.ofChange Rows.scriptBackSpec).at F).post enc Tryd.prog Tryd.f3 false true false false) := by
  obtain ⟨ds, places, hx⟩ := reads os enc
  refine returnsInHanded_of_row (C := Tryd.checked) (s := OpenSpec.ofChange Rows.scriptBackSpec) own started (by kernel_rfl) Tryd.func3
    (witness_row_at (enc := enc) (C := Tryd.checked) false (let w := World.holding Tryd.prog os ⟨#[], #[], []⟩; let h := (((((w.heap.modify 5 (putCells db32)).modify 6 (putCells db64)).modify 4 (putCells pow10)).modify 0 (putCells sects)).modify 1 (putCells kinds)).modify 2 (putCells sorts); let h := (h.modify 8 (putCells #[.iface 137 (.pointer (some ⟨h.size, 0, none⟩))])).modify 7 (putCells #[.iface 137 (.pointer (some ⟨h.size + 1, 0, none⟩))]); { w with heap := (h.push (.cells #[.string ⟨#[118, 97, 108, 117, 101, 32, 111, 117, 116, 32, 111, 102, 32, 114, 97, 110, 103, 101]⟩] 139)).push (.cells #[.string ⟨#[105, 110, 118, 97, 108, 105, 100, 32, 115, 121, 110, 116, 97, 120]⟩] 139) } : World) wargs rfl (by kernel_rfl) (by kernel_rfl) (by kernel_rfl)
      (OpenSpec.preRow_of_cond 8 hx (by kernel_rfl) (fun k hk => by cases hk) (by kernel_rfl) (laid_met os))) ?_
  intro W base args ds gs before hval hW _ _ _ hL hsh _
  have hL : laidMet Tryd.prog Rows.scriptBackRow.laid W := hL
  obtain ⟨ps, hlv, _, _⟩ := hL
  exact contract H enc W base args ds gs before (glob_of hlv hsh (by simp [Rows.scriptBackRow]) (by simp [Rows.scriptBackRow]) (by simp [Rows.scriptBackRow]) (by simp [Rows.scriptBackRow]) (by simp [Rows.scriptBackRow]) (by simp [Rows.scriptBackRow])) hval hW

theorem said : Rows.ScriptBackSaid :=
  OpenClaim.holds_of_cond 3 Tryd.f3 rfl rfl rfl rfl rfl rfl rfl ⟨rfl, rfl, rfl, rfl, rfl⟩ rfl rfl rfl rfl rfl (by kernel_rfl) Tryd.func3 (by kernel_rfl)
    (of_decide_eq_true (by kernel_rfl)) (by unfold Func.isWrapper; first | (rw [if_pos (by decide +kernel)]; kernel_rfl) | (rw [if_neg (by decide +kernel)]; exact ⟨rfl, rfl⟩))
    (fun os started H enc _ F => by rw [OpenClaim.pre_eq_preRow]; exact lifted os started H enc F)

theorem plain (f : FuncId) (fn : Func) (hf : Tryd.pinned.checked.prog.funcNamed "ropewalk/ropewalklaw.ScriptBack" = some f) (hfn : Tryd.pinned.checked.prog.funcs[f]? = some fn) :
    true = Tryd.pinned.checked.prog.looks [] ∧ ∀ (j : Nat) t, fn.params[j]? = some t → Tryd.pinned.checked.prog.wantsStandIn t = false := by
  obtain rfl : f = 3 := Option.some.inj ((show Tryd.prog.funcNamed "ropewalk/ropewalklaw.ScriptBack" = some 3 by kernel_rfl).symm.trans hf) |>.symm
  obtain rfl : fn = Tryd.f3 := (Option.some.inj (Tryd.func3.symm.trans hfn)).symm
  refine ⟨by kernel_rfl, fun j t ht => ?_⟩
  rw [Tryd.params3] at ht
  have hm : t = 25 ∨ t = 9 := by
    have := Array.mem_of_getElem? ht
    simp at this
    omega
  rcases hm with rfl | rfl
  · exact (show Tryd.prog.wantsStandIn 25 = false by kernel_rfl)
  · exact (show Tryd.prog.wantsStandIn 9 = false by kernel_rfl)

end Go.Proofs.YtogipjjmnmahnaaDoor.scriptBack
namespace Go.Proofs.YtogipjjmnmahnaaDoor
/-- The card. -/
theorem scriptBack_card : Rows.ScriptBackCardSaid :=
  Claim7.holds_tied_plain_at .later [] _ _ _ _ scriptBack.said (fun _ h => by cases h) (by kernel_rfl) (fun _ h => by cases h) scriptBack_row_tie rfl ⟨rfl, rfl⟩ (by kernel_rfl) rfl scriptBack.plain (by kernel_rfl)
#print axioms scriptBack_card
end Go.Proofs.YtogipjjmnmahnaaDoor
