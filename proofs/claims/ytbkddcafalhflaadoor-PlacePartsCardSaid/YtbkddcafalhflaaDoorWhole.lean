/- Plain laws: SHA-256 over the whole text, padded at once. No condition. -/
import Derived.Test.YtbkddcafalhflaaDoorFeed
namespace Go.Proofs.YtbkddcafalhflaaDoor
/-- How many noughts. -/
def zeros (k : Nat) : Nat := padSize (k % 64) - 9 - k % 64
def padZ (m : List (BitVec 8)) (j : Nat) : List (BitVec 8) := m ++ (0x80 :: List.replicate j 0)
def whole (m : List (BitVec 8)) (i : Nat) : List (BitVec 8) := padZ m (zeros m.length) ++ (lenBytes (8 * m.length)).take i
theorem padZ_length (m : List (BitVec 8)) (j : Nat) : (padZ m j).length = m.length + 1 + j := by unfold padZ; simp; omega
theorem padZ_succ (m : List (BitVec 8)) (j : Nat) : padZ m (j + 1) = padZ m j ++ [0] := by
  unfold padZ
  rw [List.replicate_succ', List.append_assoc, List.cons_append]
theorem zeros_not (k j : Nat) (h : j < zeros k) : (k + 1 + j) % 64 ≠ 56 := by unfold zeros padSize at h; split at h <;> omega
theorem zeros_at (k : Nat) : (k + 1 + zeros k) % 64 = 56 := by unfold zeros padSize; split <;> omega
theorem zeros_le (k : Nat) : zeros k ≤ 119 := by unfold zeros padSize; split <;> omega
theorem whole_length (m : List (BitVec 8)) : (whole m 8).length = m.length + 9 + zeros m.length := by
  unfold whole
  rw [List.length_append, padZ_length, List.length_take]
  have : (lenBytes (8 * m.length)).length = 8 := rfl
  omega
theorem whole_zero (m : List (BitVec 8)) : whole m 0 = padZ m (zeros m.length) := by unfold whole; rw [List.take_zero, List.append_nil]
theorem whole_blocks (m : List (BitVec 8)) : ∃ n, (whole m 8).length = 64 * n ∧ n = m.length / 64 + padSize (m.length % 64) / 64 := by
  refine ⟨m.length / 64 + padSize (m.length % 64) / 64, ?_, rfl⟩
  rw [whole_length]
  unfold zeros padSize
  split <;> omega
theorem whole_sha (m : List (BitVec 8)) (n : Nat) (hn : n = m.length / 64 + padSize (m.length % 64) / 64) : feed n (whole m 8) start = shaState m := by
  subst hn
  have e : whole m 8 = m ++ (0x80 :: (List.replicate (zeros m.length) 0 ++ lenBytes (8 * m.length))) := by
    unfold whole padZ
    rw [List.take_of_length_le (show (lenBytes (8 * m.length)).length ≤ 8 from Nat.le_refl _), List.append_assoc, List.cons_append]
  rw [feed_add, e, feed_append _ _ _ _ (by omega), List.drop_append_of_le_length (by omega)]
  rfl
def lenByte (n i : Nat) : BitVec 8 := BitVec.ofNat 8 (n / 2 ^ (56 - 8 * i))
theorem lenBytes_take (n i : Nat) (hi : i < 8) : (lenBytes n).take (i + 1) = (lenBytes n).take i ++ [lenByte n i] := by
  have h : i = 0 ∨ i = 1 ∨ i = 2 ∨ i = 3 ∨ i = 4 ∨ i = 5 ∨ i = 6 ∨ i = 7 := by omega
  rcases h with rfl | rfl | rfl | rfl | rfl | rfl | rfl | rfl <;> simp [lenBytes, lenByte]
theorem whole_succ (m : List (BitVec 8)) (i : Nat) (hi : i < 8) : whole m (i + 1) = whole m i ++ [lenByte (8 * m.length) i] := by
  unfold whole; rw [lenBytes_take _ _ hi, List.append_assoc]
theorem tell_at (s : St) (i : Nat) (hi : i < 32) : at8 (tell s) i = b32 (at32 s.list (i / 4) >>> (24 - 8 * (i % 4))) := by
  have h4 : i / 4 = 0 ∨ i / 4 = 1 ∨ i / 4 = 2 ∨ i / 4 = 3 ∨ i / 4 = 4 ∨ i / 4 = 5 ∨ i / 4 = 6 ∨ i / 4 = 7 := by omega
  have h5 : i % 4 = 0 ∨ i % 4 = 1 ∨ i % 4 = 2 ∨ i % 4 = 3 := by omega
  have h6 : i = 4 * (i / 4) + i % 4 := by omega
  generalize i / 4 = a at *
  generalize i % 4 = b at *
  subst h6
  rcases h4 with rfl | rfl | rfl | rfl | rfl | rfl | rfl | rfl <;> rcases h5 with rfl | rfl | rfl | rfl <;> simp [tell, tellTo, fourOf, at8, at32, St.list]
end Go.Proofs.YtbkddcafalhflaaDoor
