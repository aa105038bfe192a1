/- '==' on arrays of thirty-two bytes. Condition: their lengths. -/
import Derived.Test.YtepeloenijlnhaaDoorOf
import Derived.Laws.OwnMore
import Derived.Stop.BytesEq
namespace Go.Proofs.YtepeloenijlnhaaDoor
open Go.RowKit
theorem u8v_cell (l : List (BitVec 8)) : l.map u8v = (l.map UInt8.ofBitVec).map Extern.Stop.cell := by
  rw [List.map_map]; apply List.map_congr_left; intro x _
  simp [u8v, B, Extern.Stop.cell]
theorem beq_bytes (a b : List (BitVec 8)) : (a.map UInt8.ofBitVec == b.map UInt8.ofBitVec) = decide (a = b) := by
  rw [Bool.eq_iff_iff, beq_iff_eq, decide_eq_true_iff]
  constructor
  · intro h
    have h2 := congrArg (List.map UInt8.toBitVec) h
    rw [List.map_map, List.map_map] at h2
    have e : (UInt8.toBitVec ∘ UInt8.ofBitVec) = id := by funext x; rfl
    rw [e, List.map_id, List.map_id] at h2
    exact h2
  · rintro rfl; rfl
theorem u8_size (w : World) : (sizeOf 5).run Tryd.prog w = .ok 1 w := by kernel_rfl
theorem arr_eql (T : TypeId) (hT : Tryd.prog.underlying T = some (.array 32 5)) (a b : List (BitVec 8)) (ha : a.length = 32) (hb : b.length = 32) (w : World) :
    (binOp .eql T (.agg (a.map u8v).toArray) (.agg (b.map u8v).toArray)).run Tryd.prog w = .ok (.bool (decide (a = b))) w := by
  rw [u8v_cell, u8v_cell, run_eql_bytes w T 5 32 hT Tryd.underlying5 u8_size _ _ (by simpa using ha) (by simpa using hb), beq_bytes]
theorem sum_info : (Tryd.prog.info? 41).map (·.size) = some 32 := by kernel_rfl
end Go.Proofs.YtepeloenijlnhaaDoor
