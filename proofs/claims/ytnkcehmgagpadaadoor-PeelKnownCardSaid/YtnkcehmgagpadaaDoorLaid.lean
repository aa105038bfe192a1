/- What the rows' condition on the two listed variables gives the walks; that the program's own start meets it. -/
import Derived.Test.YtnkcehmgagpadaaDoorRows
import Derived.Test.YtnkcehmgagpadaaDoorGp18
import Derived.Lib.LaidTab
import Derived.ProofKit
import Derived.LaidMore
import Derived.OpenShut
import Derived.Stop.Joined
import Derived.Stop.LaidErr
namespace Go.Proofs.YtnkcehmgagpadaaDoor
open Go.ChangeShapes Go.WideShapes Go.ChangeAt Go.RowKit
theorem own : ownKnob Tryd.prog.godebug = none := by kernel_rfl
theorem gFirst : Tryd.prog.globalNamed "tallyman/sum.first" = some 0 := by kernel_rfl
theorem gRounds : Tryd.prog.globalNamed "tallyman/sum.rounds" = some 1 := by kernel_rfl
theorem tFirst : (Tryd.prog.globals[0]?).map (·.type) = some 76 := by kernel_rfl
theorem tRounds : (Tryd.prog.globals[1]?).map (·.type) = some 120 := by kernel_rfl
def laidVars : List (String × DataW Unit) := [("tallyman/sum.first", Rows.laid_tallyman_sum_first), ("tallyman/sum.rounds", Rows.laid_tallyman_sum_rounds)]
def firstInts : List Int := start.list.map N
def roundInts : List Int := keys.map N
theorem laidVars_eq : laidVars = [("tallyman/sum.first", Lib.tabData .u32 firstInts), ("tallyman/sum.rounds", Lib.tabData .u32 roundInts)] := by kernel_rfl
theorem of_laid {W : World} (h : laidMetH Tryd.prog laidVars W) : Laid W := by
  rw [MakeChecks.laidMetH_plain _ _ _ (by kernel_rfl), laidVars_eq] at h
  have h1 := Lib.tabIs_of_head gFirst tFirst Tryd.underlying76 Tryd.underlying75 (by kernel_rfl) (by kernel_rfl) h
  have h2 := Lib.tabIs_of_head gRounds tRounds Tryd.underlying120 Tryd.underlying75 (by kernel_rfl) (by kernel_rfl) h.tail
  have hlt : ∀ (g : Nat) v, W.cell? ⟨g, 0, none⟩ = some v → g < W.heap.size := by
    intro g v hv
    rcases Nat.lt_or_ge g W.heap.size with h | h
    · exact h
    · unfold World.cell? at hv
      rw [Array.getElem?_eq_none h] at hv
      cases hv
  refine ⟨⟨hlt _ _ (h2.cell gRounds 0 (by decide)), fun i hi => ?_⟩, hlt _ _ (h1.cell gFirst 0 (by decide)), fun i v hv => ?_⟩
  · have := h2.cell gRounds i (by simpa [roundInts, keys_length] using hi)
    rw [this]
    simp [roundInts, at32, List.getD_eq_getElem?_getD, List.getElem?_map, List.getElem?_eq_getElem (show i < keys.length by rw [keys_length]; exact hi)]
  · have hi : i < 8 := by have := (List.getElem?_eq_some_iff.1 hv).1; simpa [St.vals, St.list] using this
    have := h1.cell gFirst i (by simpa [firstInts, St.list] using hi)
    rw [this, ← hv, firstInts, St.vals, List.getElem?_map]
    have hl : i < start.list.length := hi
    simp [u32v, List.getD_eq_getElem?_getD, List.getElem?_map, List.getElem?_eq_getElem hl]
/-- The door's own heap meets the condition: closed facts. -/
theorem door_met (os : Os) (args : Array Value) : laidMetH Tryd.prog laidVars ((World.doorLaid Tryd.prog 400 os).forCall (fun _ _ => 0) ⟨#[], args, []⟩).memory :=
  laidMetH_of_parts3 (fuel := 8) (laidMet_of_run' 8 (by kernel_rfl) (by kernel_rfl)) (by kernel_rfl) (by kernel_rfl)
end Go.Proofs.YtnkcehmgagpadaaDoor
