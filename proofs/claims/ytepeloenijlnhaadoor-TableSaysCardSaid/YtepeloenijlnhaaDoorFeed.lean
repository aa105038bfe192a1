/- SHA-256 of a list of bytes, block by block: plain laws. No condition. -/
import Derived.Test.YtepeloenijlnhaaDoorSha
namespace Go.Proofs.YtepeloenijlnhaaDoor

section
variable {T : Type} (f : T → List (BitVec 8) → T)
def feedBy : Nat → List (BitVec 8) → T → T
  | 0, _, s => s
  | n + 1, m, s => feedBy n (m.drop 64) (f s (m.take 64))
theorem feedBy_end (n : Nat) (m : List (BitVec 8)) (s : T) : feedBy f (n + 1) m s = f (feedBy f n m s) ((m.drop (64 * n)).take 64) := by
  induction n generalizing m s with
  | zero => simp [feedBy]
  | succ n ih => rw [feedBy, ih, feedBy, List.drop_drop]; congr 3; omega
theorem feedBy_append (n : Nat) (m p : List (BitVec 8)) (s : T) (h : 64 * n ≤ m.length) : feedBy f n (m ++ p) s = feedBy f n m s := by
  induction n generalizing m s with
  | zero => rfl
  | succ n ih =>
    rw [feedBy, feedBy, List.take_append_of_le_length (by omega), List.drop_append_of_le_length (by omega), ih _ _ (by rw [List.length_drop]; omega)]
theorem feedBy_add (n k : Nat) (m : List (BitVec 8)) (s : T) : feedBy f (n + k) m s = feedBy f k (m.drop (64 * n)) (feedBy f n m s) := by
  induction n generalizing m s with
  | zero => simp [feedBy]
  | succ n ih => rw [show n + 1 + k = (n + k) + 1 by omega, feedBy, ih, feedBy, List.drop_drop]; congr 2; omega
end
def feed (n : Nat) (m : List (BitVec 8)) (s : St) : St := feedBy mix n m s
theorem feed_end (n : Nat) (m : List (BitVec 8)) (s : St) : feed (n + 1) m s = mix (feed n m s) ((m.drop (64 * n)).take 64) := feedBy_end mix n m s
theorem feed_append (n : Nat) (m p : List (BitVec 8)) (s : St) (h : 64 * n ≤ m.length) : feed n (m ++ p) s = feed n m s := feedBy_append mix n m p s h
theorem feed_add (n k : Nat) (m : List (BitVec 8)) (s : St) : feed (n + k) m s = feed k (m.drop (64 * n)) (feed n m s) := feedBy_add mix n k m s

/-- The state behind all whole blocks of m. -/
def stateOf (m : List (BitVec 8)) : St := feed (m.length / 64) m start
/-- What of m does not fill a block. -/
def restOf (m : List (BitVec 8)) : List (BitVec 8) := m.drop (64 * (m.length / 64))
theorem restOf_length (m : List (BitVec 8)) : (restOf m).length = m.length % 64 := by unfold restOf; rw [List.length_drop]; omega
theorem stateOf_small (m p : List (BitVec 8)) (h : m.length % 64 + p.length < 64) : stateOf (m ++ p) = stateOf m := by
  unfold stateOf
  have e : (m ++ p).length / 64 = m.length / 64 := by rw [List.length_append]; omega
  rw [e, feed_append _ _ _ _ (by omega)]
theorem restOf_small (m p : List (BitVec 8)) (h : m.length % 64 + p.length < 64) : restOf (m ++ p) = restOf m ++ p := by
  unfold restOf
  have e : (m ++ p).length / 64 = m.length / 64 := by rw [List.length_append]; omega
  rw [e, List.drop_append_of_le_length (by omega)]
theorem stateOf_block (m p : List (BitVec 8)) (h : m.length % 64 + p.length = 64) : stateOf (m ++ p) = mix (stateOf m) (restOf m ++ p) := by
  unfold stateOf restOf
  have e : (m ++ p).length / 64 = m.length / 64 + 1 := by rw [List.length_append]; omega
  rw [e, feed_end, feed_append _ _ _ _ (by omega), List.drop_append_of_le_length (by omega)]
  congr 1
  rw [List.take_of_length_le]
  rw [List.length_append, List.length_drop]; omega
theorem restOf_whole (m : List (BitVec 8)) (h : m.length % 64 = 0) : restOf m = [] := List.eq_nil_of_length_eq_zero (by rw [restOf_length]; exact h)
theorem stateOf_step (m p : List (BitVec 8)) (h : m.length % 64 = 0) (hp : 64 ≤ p.length) : stateOf (m ++ p.take 64) = mix (stateOf m) (p.take 64) := by
  rw [stateOf_block _ _ (by rw [List.length_take]; omega), restOf_whole m h, List.nil_append]

/-- The padding's bytes: one bit, noughts, the length in bits. -/
def lenBytes (n : Nat) : List (BitVec 8) := [BitVec.ofNat 8 (n / 2 ^ 56), BitVec.ofNat 8 (n / 2 ^ 48), BitVec.ofNat 8 (n / 2 ^ 40), BitVec.ofNat 8 (n / 2 ^ 32), BitVec.ofNat 8 (n / 2 ^ 24), BitVec.ofNat 8 (n / 2 ^ 16), BitVec.ofNat 8 (n / 2 ^ 8), BitVec.ofNat 8 n]
def padSize (k : Nat) : Nat := if k + 9 ≤ 64 then 64 else 128
def padded (m : List (BitVec 8)) : List (BitVec 8) := restOf m ++ 0x80 :: (List.replicate (padSize (m.length % 64) - 9 - m.length % 64) 0 ++ lenBytes (8 * m.length))
theorem padded_length (m : List (BitVec 8)) : (padded m).length = padSize (m.length % 64) := by
  unfold padded padSize lenBytes
  have := restOf_length m
  have h2 : m.length % 64 < 64 := Nat.mod_lt _ (by omega)
  split <;> simp [this] <;> omega
/-- SHA-256. -/
def shaState (m : List (BitVec 8)) : St := feed (padSize (m.length % 64) / 64) (padded m) (stateOf m)
def sha (m : List (BitVec 8)) : List (BitVec 8) := tell (shaState m)
theorem sha_length (m : List (BitVec 8)) : (sha m).length = 32 := tell_length _
end Go.Proofs.YtepeloenijlnhaaDoor
