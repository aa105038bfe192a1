/- What the rows' condition on three listed variables gives the walks; that the program's own start meets it. -/
import Derived.Test.YtbkddcafalhflaaDoorLaid
import Derived.Test.YtbkddcafalhflaaDoorGp5
namespace Go.Proofs.YtbkddcafalhflaaDoor
open Go.ChangeShapes Go.WideShapes Go.ChangeAt Go.RowKit
theorem gTz : Tryd.prog.globalNamed "math/bits.deBruijn64tab" = some 0 := by kernel_rfl
theorem tTz : (Tryd.prog.globals[0]?).map (·.type) = some 47 := by kernel_rfl
def laidVars3 : List (String × DataW Unit) := [("math/bits.deBruijn64tab", Rows.laid_math_bits_deBruijn64tab), ("tallyman/sum.first", Rows.laid_tallyman_sum_first), ("tallyman/sum.rounds", Rows.laid_tallyman_sum_rounds)]
def tzInts : List Int := debruijn.map fun (n : Nat) => (n : Int)
theorem laidVars3_eq : laidVars3 = [("math/bits.deBruijn64tab", Lib.tabData .u8 tzInts), ("tallyman/sum.first", Lib.tabData .u32 firstInts), ("tallyman/sum.rounds", Lib.tabData .u32 roundInts)] := by kernel_rfl
theorem of_laid3 {W : World} (h : laidMetH Tryd.prog laidVars3 W) : Laid W ∧ DeB W := by
  rw [MakeChecks.laidMetH_plain _ _ _ (by kernel_rfl), laidVars3_eq] at h
  have h1 := Lib.tabIs_of_head gFirst tFirst Tryd.underlying46 Tryd.underlying45 (by kernel_rfl) (by kernel_rfl) h.tail
  have h2 := Lib.tabIs_of_head gRounds tRounds Tryd.underlying56 Tryd.underlying45 (by kernel_rfl) (by kernel_rfl) h.tail.tail
  have h3 := Lib.tabIs_of_head gTz tTz Tryd.underlying47 Tryd.underlying5 (by kernel_rfl) (by kernel_rfl) h
  have hlt : ∀ (g : Nat) v, W.cell? ⟨g, 0, none⟩ = some v → g < W.heap.size := by
    intro g v hv
    rcases Nat.lt_or_ge g W.heap.size with h | h
    · exact h
    · unfold World.cell? at hv
      rw [Array.getElem?_eq_none h] at hv
      cases hv
  refine ⟨⟨⟨hlt _ _ (h2.cell gRounds 0 (by decide)), fun i hi => ?_⟩, hlt _ _ (h1.cell gFirst 0 (by decide)), fun i v hv => ?_⟩, hlt _ _ (h3.cell gTz 0 (by decide)), fun i hi => ?_⟩
  · have := h2.cell gRounds i (by simpa [roundInts, keys_length] using hi)
    rw [this]
    simp [roundInts, at32, List.getD_eq_getElem?_getD, List.getElem?_map, List.getElem?_eq_getElem (show i < keys.length by rw [keys_length]; exact hi)]
  · have hi : i < 8 := by have := (List.getElem?_eq_some_iff.1 hv).1; simpa [St.vals, St.list] using this
    have := h1.cell gFirst i (by simpa [firstInts, St.list] using hi)
    rw [this, ← hv, firstInts, St.vals, List.getElem?_map]
    have hl : i < start.list.length := hi
    simp [u32v, List.getD_eq_getElem?_getD, List.getElem?_map, List.getElem?_eq_getElem hl]
  · have hi2 : i < tzInts.length := hi
    have := h3.cell gTz i hi2
    rw [this]
    have hl : i < debruijn.length := hi
    simp [tzInts, List.getD_eq_getElem?_getD, List.getElem?_map, List.getElem?_eq_getElem hl]
/-- The door's own heap meets the condition: closed facts. -/
theorem door_met3 (os : Os) (args : Array Value) : laidMetH Tryd.prog laidVars3 ((World.doorLaid Tryd.prog 400 os).forCall (fun _ _ => 0) ⟨#[], args, []⟩).memory :=
  laidMetH_of_parts3 (fuel := 8) (laidMet_of_run' 8 (by kernel_rfl) (by kernel_rfl)) (by kernel_rfl) (by kernel_rfl)
end Go.Proofs.YtbkddcafalhflaaDoor
