/- Contracts: sum.Sum.Xor, sum.Sum.Zero. Condition: thirty-two bytes each. -/
import Derived.Test.YtbkddcafalhflaaDoorEql
import Derived.Test.YtbkddcafalhflaaDoorHeld
namespace Go.Proofs.YtbkddcafalhflaaDoor
open Go.RowKit
def xorL (x y : List (BitVec 8)) : List (BitVec 8) := List.zipWith (· ^^^ ·) x y
def xorTo (x y : List (BitVec 8)) (k : Nat) : List (BitVec 8) := xorL (x.take k) (y.take k) ++ x.drop k
theorem xorL_length (x y : List (BitVec 8)) (hx : x.length = 32) (hy : y.length = 32) : (xorL x y).length = 32 := by simp [xorL, hx, hy]
theorem xorTo_length (x y : List (BitVec 8)) (k : Nat) (h : x.length = y.length) : (xorTo x y k).length = x.length := by
  simp [xorTo, xorL, h]; omega
theorem xorTo_at (x y : List (BitVec 8)) (k : Nat) (h : x.length = y.length) (hk : k < x.length) : at8 (xorTo x y k) k = at8 x k := by
  have hl : (xorL (x.take k) (y.take k)).length = k := by simp [xorL]; omega
  unfold at8 xorTo
  rw [List.getD_eq_getElem?_getD, List.getD_eq_getElem?_getD, List.getElem?_append_right (by omega), hl, List.getElem?_drop]
  simp
theorem xorTo_put (x y : List (BitVec 8)) (k : Nat) (h : x.length = y.length) (hk : k < x.length) : (xorTo x y k).set k (at8 x k ^^^ at8 y k) = xorTo x y (k + 1) := by
  have hl : (xorL (x.take k) (y.take k)).length = k := by simp [xorL]; omega
  unfold xorTo
  rw [List.set_append_right _ _ (by omega), hl, Nat.sub_self, List.drop_eq_getElem_cons hk, List.set_cons_zero]
  have e1 : at8 x k = x[k] := by simp [at8, List.getD_eq_getElem?_getD, List.getElem?_eq_getElem hk]
  have e2 : at8 y k = y[k] := by simp [at8, List.getD_eq_getElem?_getD, List.getElem?_eq_getElem (show k < y.length by omega)]
  have e3 : xorL (x.take (k + 1)) (y.take (k + 1)) = xorL (x.take k) (y.take k) ++ [x[k] ^^^ y[k]] := by
    unfold xorL
    rw [List.take_succ_eq_append_getElem hk, List.take_succ_eq_append_getElem (show k < y.length by omega), List.zipWith_append (by simp; omega)]
    rfl
  rw [e1, e2, e3, List.append_assoc]; rfl
theorem xorTo_zero (x y : List (BitVec 8)) : xorTo x y 0 = x := by simp [xorTo, xorL]
theorem xorTo_full (x y : List (BitVec 8)) (hx : x.length = 32) (hy : y.length = 32) : xorTo x y 32 = xorL x y := by
  unfold xorTo
  rw [List.take_of_length_le (by omega), List.take_of_length_le (by omega), List.drop_of_length_le (by omega), List.append_nil]

section
attribute [local go_sem] B_xor
end
def zero32 : List (BitVec 8) := List.replicate 32 0
end Go.Proofs.YtbkddcafalhflaaDoor
