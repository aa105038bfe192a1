/- '==' on arrays of thirty-two bytes. Condition: their lengths. -/
import Derived.Test.YtnkcehmgagpadaaDoorGp19
import Derived.Laws.OwnMore
import Derived.Stop.BytesEq
import Derived.Test.YtnkcehmgagpadaaDoorGp24
namespace Go.Proofs.YtnkcehmgagpadaaDoor
open Go.RowKit
theorem sum_info : (Tryd.prog.info? 42).map (·.size) = some 32 := by kernel_rfl
end Go.Proofs.YtnkcehmgagpadaaDoor
/- Contracts: sum.Sum.Xor, sum.Sum.Zero. Condition: thirty-two bytes each. -/
namespace Go.Proofs.YtnkcehmgagpadaaDoor
open Go.RowKit
def xorL (x y : List (BitVec 8)) : List (BitVec 8) := List.zipWith (· ^^^ ·) x y
def xorTo (x y : List (BitVec 8)) (k : Nat) : List (BitVec 8) := xorL (x.take k) (y.take k) ++ x.drop k
theorem xorL_length (x y : List (BitVec 8)) (hx : x.length = 32) (hy : y.length = 32) : (xorL x y).length = 32 := by simp [xorL, hx, hy]
theorem xorTo_length (x y : List (BitVec 8)) (k : Nat) (h : x.length = y.length) : (xorTo x y k).length = x.length := by
  simp [xorTo, xorL, h]; omega
theorem xorTo_at (x y : List (BitVec 8)) (k : Nat) (h : x.length = y.length) (hk : k < x.length) : at8 (xorTo x y k) k = at8 x k := by
  have hl : (xorL (x.take k) (y.take k)).length = k := by simp [xorL]; omega
  unfold at8 xorTo
  rw [List.getD_eq_getElem?_getD, List.getD_eq_getElem?_getD, List.getElem?_append_right (by omega), hl, List.getElem?_drop]
  simp
theorem xorTo_put (x y : List (BitVec 8)) (k : Nat) (h : x.length = y.length) (hk : k < x.length) : (xorTo x y k).set k (at8 x k ^^^ at8 y k) = xorTo x y (k + 1) := by
  have hl : (xorL (x.take k) (y.take k)).length = k := by simp [xorL]; omega
  unfold xorTo
  rw [List.set_append_right _ _ (by omega), hl, Nat.sub_self, List.drop_eq_getElem_cons hk, List.set_cons_zero]
  have e1 : at8 x k = x[k] := by simp [at8, List.getD_eq_getElem?_getD, List.getElem?_eq_getElem hk]
  have e2 : at8 y k = y[k] := by simp [at8, List.getD_eq_getElem?_getD, List.getElem?_eq_getElem (show k < y.length by omega)]
  have e3 : xorL (x.take (k + 1)) (y.take (k + 1)) = xorL (x.take k) (y.take k) ++ [x[k] ^^^ y[k]] := by
    unfold xorL
    rw [List.take_succ_eq_append_getElem hk, List.take_succ_eq_append_getElem (show k < y.length by omega), List.zipWith_append (by simp; omega)]
    rfl
  rw [e1, e2, e3, List.append_assoc]; rfl
theorem xorTo_zero (x y : List (BitVec 8)) : xorTo x y 0 = x := by simp [xorTo, xorL]
theorem xorTo_full (x y : List (BitVec 8)) (hx : x.length = 32) (hy : y.length = 32) : xorTo x y 32 = xorL x y := by
  unfold xorTo
  rw [List.take_of_length_le (by omega), List.take_of_length_le (by omega), List.drop_of_length_le (by omega), List.append_nil]

section
attribute [local go_sem] B_xor
set_option maxHeartbeats 1000000 in
set_option maxRecDepth 100000 in
theorem xor_any (x y : List (BitVec 8)) (hx : x.length = 32) (hy : y.length = 32) (w : World) :
    Calls Tryd.prog 76 #[.agg (x.map u8v).toArray, .agg (y.map u8v).toArray] w fun e w' => e = .returned (.agg ((xorL x y).map u8v).toArray) ∧ Below w.heap.size w w' := by
  obtain ⟨cx, hcx⟩ : ∃ cx, cx = x.map u8v := ⟨_, rfl⟩
  obtain ⟨cy, hcy⟩ : ∃ cy, cy = y.map u8v := ⟨_, rfl⟩
  rw [← hcx, ← hcy]
  have Hcx := Lib.hid hcx
  have Hcy := Lib.hid hcy
  have Hx := Lib.hid hx
  have Hy := Lib.hid hy
  clear hcx hcy hx hy
  go_enter Tryd.func76, Tryd.ntmps76
  go_wp2_with fail
  generalize hw0 : ((w.alloc _).alloc _).alloc _ = w0
  have h2 : Has w0 w.heap.size 42 ((xorTo x y 0).map u8v) := by
    subst hw0; rw [xorTo_zero, ← Hcx.out]; exact ((Has.made' _ _ _ _ rfl).alloc _).alloc _
  have h3 : Has w0 (w.heap.size + 1) 42 (y.map u8v) := by
    subst hw0; rw [← Hcy.out]; exact (Has.made1 _ _ _ _ _ rfl).alloc _
  have h4 : Has w0 (w.heap.size + 2) 42 (brow 32 []) := by
    subst hw0; rw [brow_nil]
    have := Has.made' ((w.alloc (.cells cx.toArray 42)).alloc (.cells cy.toArray 42)) 42 _ (List.replicate 32 (.int .u8 0)) rfl
    simpa using this
  have hB : Below w.heap.size w w0 := by
    subst hw0; exact (((Below.refl _ _).alloc (Nat.le_refl _) _).alloc (by simp) _).alloc (by simp; omega) _
  clear hw0
  go_loopw [6] (fun i wr => ∃ k : Nat, k ≤ 32 ∧ i = .int .i64 k ∧ Has wr w.heap.size 42 ((xorTo x y k).map u8v) ∧ Has wr (w.heap.size + 1) 42 (y.map u8v) ∧ Has wr (w.heap.size + 2) 42 (brow 32 []) ∧ Below w.heap.size w wr)
    (fun i _ => 32 - (intOf i).toNat)
  case atStart => exact ⟨0, by omega, rfl, h2, h3, h4, hB⟩
  case round =>
    clear h2 h3 h4 hB
    rename_i wr
    obtain ⟨k, hk, rfl, h2, h3, h4, hB⟩ := hrel
    by_cases hlt : k < 32
    · have hxy : x.length = y.length := Hx.out.trans Hy.out.symm
      have cs := h2.cellv (at8_of _ k (by rw [xorTo_length _ _ _ hxy, Hx.out]; exact hlt))
      rw [xorTo_at _ _ _ hxy (by rw [Hx.out]; exact hlt)] at cs
      have co := h3.cellv (at8_of _ k (by rw [Hy.out]; exact hlt))
      have fs := h2.free k
      have hput := xorTo_put x y k hxy (by rw [Hx.out]; exact hlt)
      have Hput := Lib.hid hput
      have k1 : (k : Int) < 32 := by omega
      clear hxy hput
      go_wp2_with fail
      go_still_tail 8, (by kernel_rfl)
      go_wp2_with fail
      go_roundw
      case rel =>
        refine ⟨k + 1, by omega, by go_num, ?_, (h3.off (by simp) _).drew, (h4.off (by simp) _).drew, (hB.setCell (by simp) _).drew⟩
        have := (h2.put k (u8v (at8 x k ^^^ at8 y k))).drew
        rw [← List.map_set, Hput.out] at this
        exact this
      case measure => simp [intOf]; omega
    · have : k = 32 := by omega
      subst this
      rw [xorTo_full x y Hx.out Hy.out] at h2
      have hlen : ((xorL x y).map u8v).length = 32 := by rw [List.length_map, xorL_length _ _ Hx.out Hy.out]
      have HSZ : Hid ((Tryd.prog.info? 42).map (·.size) = some ((xorL x y).map u8v).toArray.size) := Lib.hid (by rw [sum_info]; simp [← hlen])
      have HSB : Hid ((brow 32 []).toArray.size = ((xorL x y).map u8v).toArray.size) := Lib.hid (by simp [brow, xorL_length _ _ Hx.out Hy.out])
      clear hlen
      go_wp2_with (first
        | (refine wpList_load_row rfl 42 _ rfl w.heap.size rfl 42 _ (0, 0) _ h2 Tryd.underlying42 rfl HSZ.out ?_)
        | (refine wpList_store_row rfl 42 _ _ rfl (w.heap.size + 2) _ rfl rfl 42 _ h4 HSZ.out HSB.out (u8v_one _) ?_))
      refine bodyPost_ret (v := .agg ((xorL x y).map u8v).toArray) ?_ rfl ⟨rfl, below_row hB (by omega) _⟩
      refine results_cell_row rfl _ _ (w.heap.size + 2) 42 _ (0, 0) _ rfl ?_ Tryd.underlying42 rfl HSZ.out
      exact h4.rowl _
end
def zero32 : List (BitVec 8) := List.replicate 32 0
end Go.Proofs.YtnkcehmgagpadaaDoor
