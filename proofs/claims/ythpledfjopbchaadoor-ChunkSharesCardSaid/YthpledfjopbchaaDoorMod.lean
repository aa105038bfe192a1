/- Plain laws: sums of windows by 2^61 - 1: how they grow by a byte behind, lose the first, and how products fold. No condition. -/
import Derived.Test.YthpledfjopbchaaDoorBv
namespace Go.Proofs.YthpledfjopbchaaDoor
/-- A sum of bytes before the rest is taken. -/
def rval (b : List (BitVec 8)) : Nat := b.foldl (fun s c => s * 257 + (c.toNat + 1)) 0
def rsum (b : List (BitVec 8)) : Nat := rval b % 2305843009213693951
def pw (n : Nat) : Nat := 257 ^ n % 2305843009213693951
theorem rsum_lt (b : List (BitVec 8)) : rsum b < 2305843009213693951 := Nat.mod_lt _ (by omega)
theorem pw_lt (n : Nat) : pw n < 2305843009213693951 := Nat.mod_lt _ (by omega)
theorem rsum_nil : rsum [] = 0 := rfl
theorem rval_snoc (b : List (BitVec 8)) (c : BitVec 8) : rval (b ++ [c]) = rval b * 257 + (c.toNat + 1) := by
  unfold rval; rw [List.foldl_append]; rfl
theorem rsum_snoc (b : List (BitVec 8)) (c : BitVec 8) : rsum (b ++ [c]) = (rsum b * 257 + (c.toNat + 1)) % 2305843009213693951 := by
  unfold rsum; rw [rval_snoc]; omega
theorem rval_from (b : List (BitVec 8)) : ∀ s, b.foldl (fun s c => s * 257 + (c.toNat + 1)) s = s * 257 ^ b.length + rval b := by
  induction b with
  | nil => intro s; simp [rval]
  | cons x t ih =>
    intro s
    unfold rval
    rw [List.foldl_cons, List.foldl_cons, ih, ih (0 * 257 + (x.toNat + 1)), List.length_cons, Nat.pow_succ, Nat.zero_mul, Nat.zero_add, Nat.add_mul, Nat.mul_assoc, Nat.mul_comm 257, Nat.add_assoc]
theorem rval_cons (c : BitVec 8) (t : List (BitVec 8)) : rval (c :: t) = (c.toNat + 1) * 257 ^ t.length + rval t := by
  rw [rval, List.foldl_cons, rval_from, Nat.zero_mul, Nat.zero_add]
theorem rval_append (a b : List (BitVec 8)) : rval (a ++ b) = rval a * 257 ^ b.length + rval b := by
  unfold rval; rw [List.foldl_append]; exact rval_from b _
/-- A sum without its first byte. -/
def wo (s : Nat) (c : BitVec 8) (f : Nat) : Nat := (s + (2305843009213693951 - (c.toNat + 1) * f % 2305843009213693951)) % 2305843009213693951
theorem wo_lt (s : Nat) (c : BitVec 8) (f : Nat) : wo s c f < 2305843009213693951 := Nat.mod_lt _ (by omega)
theorem wo_rsum (c : BitVec 8) (t : List (BitVec 8)) : wo (rsum (c :: t)) c (pw t.length) = rsum t := by
  unfold wo rsum pw
  rw [Nat.mul_mod_mod, rval_cons]
  omega
/-- A sum moved by one. -/
def sl (s : Nat) (o i : BitVec 8) (n : Nat) : Nat := (wo (s % 2305843009213693951) o (pw (n - 1)) * 257 + (i.toNat + 1)) % 2305843009213693951
theorem sl_lt (s : Nat) (o i : BitVec 8) (n : Nat) : sl s o i n < 2305843009213693951 := Nat.mod_lt _ (by omega)
theorem sl_rsum (c x : BitVec 8) (t : List (BitVec 8)) : sl (rsum (c :: t)) c x (t.length + 1) = rsum (t ++ [x]) := by
  unfold sl
  rw [Nat.mod_eq_of_lt (rsum_lt _), Nat.add_sub_cancel, wo_rsum, rsum_snoc]
/-- A product's rest, folded. -/
theorem fold_mod (p : Nat) : (p / 2305843009213693952 + p % 2305843009213693952) % 2305843009213693951 = p % 2305843009213693951 := by omega
theorem mul_lt_mul' (a b : Nat) (ha : a < 2305843009213693951) (hb : b < 2305843009213693951) : a * b ≤ 5316911983139663482491379359414222500 ∧ a * b < 340282366920938463463374607431768211456 := by
  have h : a * b ≤ 2305843009213693950 * 2305843009213693950 := Nat.mul_le_mul (by omega) (by omega)
  omega
theorem fold_lt (a b : Nat) (ha : a < 2305843009213693951) (hb : b < 2305843009213693951) :
    a * b / 2305843009213693952 + a * b % 2305843009213693952 < 2 * 2305843009213693951 ∧ a * b / 2305843009213693952 < 2305843009213693951 ∧ a * b / 18446744073709551616 < 288230376151711744 := by
  have h := (mul_lt_mul' a b ha hb).1
  generalize a * b = p at *
  omega
/-- A power by squares: what stays. -/
def powC (all sq n : Nat) : Nat := all * sq ^ n % 2305843009213693951
theorem powC_odd (all sq n : Nat) (h : n % 2 = 1) : powC (all * sq % 2305843009213693951) (sq * sq % 2305843009213693951) (n / 2) = powC all sq n := by
  unfold powC
  have e : all * sq ^ n = all * sq * (sq * sq) ^ (n / 2) := by
    rw [show sq * sq = sq ^ 2 by rw [Nat.pow_two], ← Nat.pow_mul, Nat.mul_assoc]
    congr 1
    rw [show sq * sq ^ (2 * (n / 2)) = sq ^ (2 * (n / 2) + 1) by rw [Nat.pow_succ, Nat.mul_comm], show 2 * (n / 2) + 1 = n by omega]
  rw [e, Nat.mul_mod, Nat.mod_mod, ← Nat.pow_mod, ← Nat.mul_mod]
theorem powC_even (all sq n : Nat) (h : n % 2 = 0) : powC all (sq * sq % 2305843009213693951) (n / 2) = powC all sq n := by
  unfold powC
  have e : all * sq ^ n = all * (sq * sq) ^ (n / 2) := by
    rw [show sq * sq = sq ^ 2 by rw [Nat.pow_two], ← Nat.pow_mul, show 2 * (n / 2) = n by omega]
  rw [e, Nat.mul_mod, ← Nat.pow_mod, ← Nat.mul_mod]
theorem powC_zero (all sq : Nat) (h : all < 2305843009213693951) : powC all sq 0 = all := by unfold powC; rw [Nat.pow_zero, Nat.mul_one, Nat.mod_eq_of_lt h]
theorem powC_pw (n : Nat) : powC 1 257 n = pw n := by unfold powC pw; rw [Nat.one_mul]
/-- A product by doubling: what stays. -/
def mulC (r a b : Nat) : Nat := (r + a * b) % 2305843009213693951
theorem mulC_odd (r a b : Nat) (h : b % 2 = 1) : mulC ((r + a) % 2305843009213693951) ((a + a) % 2305843009213693951) (b / 2) = mulC r a b := by
  unfold mulC
  have e : r + a * b = (r + a) + (a + a) * (b / 2) := by
    have h1 : b = 2 * (b / 2) + 1 := by omega
    rw [show a * b = a * (2 * (b / 2) + 1) by rw [← h1], Nat.mul_add, ← Nat.mul_assoc, Nat.mul_one, show a * 2 = a + a by omega]
    omega
  rw [e, Nat.add_mod, Nat.mod_mod, Nat.mod_mul_mod, ← Nat.add_mod]
theorem mulC_even (r a b : Nat) (h : b % 2 = 0) : mulC r ((a + a) % 2305843009213693951) (b / 2) = mulC r a b := by
  unfold mulC
  have e : r + a * b = r + (a + a) * (b / 2) := by
    have h1 : b = 2 * (b / 2) := by omega
    rw [show a * b = a * (2 * (b / 2)) by rw [← h1], ← Nat.mul_assoc, show a * 2 = a + a by omega]
  rw [e, Nat.add_mod, Nat.mod_mul_mod, ← Nat.add_mod]
theorem mulC_zero (r a : Nat) (h : r < 2305843009213693951) : mulC r a 0 = r := by unfold mulC; rw [Nat.mul_zero, Nat.add_zero, Nat.mod_eq_of_lt h]
theorem mulC_start (a b : Nat) : mulC 0 a b = a * b % 2305843009213693951 := by unfold mulC; rw [Nat.zero_add]
theorem pw_zero : pw 0 = 1 := rfl
theorem pw_succ (c n : Nat) : (c * pw n % 2305843009213693951) * 257 % 2305843009213693951 = c * pw (n + 1) % 2305843009213693951 := by
  unfold pw
  rw [Nat.mul_mod_mod, Nat.mul_mod_mod, Nat.mod_mul_mod, Nat.pow_succ, Nat.mul_assoc]
/-- Texts of one length that have one byte unlike have sums that are unlike. -/
theorem far_dvd (d k : Nat) (hd : d < 2305843009213693951) (h : 2305843009213693951 ∣ d * 257 ^ k) : d = 0 := by
  have hc : Nat.Coprime 2305843009213693951 (257 ^ k) := Nat.Coprime.pow_right k (by decide +kernel)
  have := hc.dvd_of_dvd_mul_right h
  rcases Nat.eq_zero_or_pos d with h0 | h0
  · exact h0
  · have := Nat.le_of_dvd h0 this; omega
theorem rval_one (b : List (BitVec 8)) (k : Nat) (h : k < b.length) (x : BitVec 8) :
    rval (b.set k x) + b[k].toNat * 257 ^ (b.length - 1 - k) = rval b + x.toNat * 257 ^ (b.length - 1 - k) := by
  have e1 : b = b.take k ++ b[k] :: b.drop (k + 1) := by rw [← List.drop_eq_getElem_cons h, List.take_append_drop]
  have e2 : b.set k x = b.take k ++ x :: b.drop (k + 1) := by rw [List.set_eq_take_append_cons_drop, if_pos h]
  have hl : (b.drop (k + 1)).length = b.length - 1 - k := by rw [List.length_drop]; omega
  have h1 : rval b = rval (b.take k) * 257 ^ (b[k] :: b.drop (k + 1)).length + ((b[k].toNat + 1) * 257 ^ (b.length - 1 - k) + rval (b.drop (k + 1))) := by
    rw [← hl, ← rval_cons, ← rval_append, ← e1]
  rw [e2, h1, rval_append, rval_cons, hl, List.length_cons, List.length_cons]
  simp only [Nat.add_mul, Nat.one_mul]
  omega
theorem rsum_one (b : List (BitVec 8)) (k : Nat) (h : k < b.length) (x : BitVec 8) : (rsum b == rsum (b.set k x)) = (b[k] == x) := by
  have e := rval_one b k h x
  rw [Bool.eq_iff_iff, beq_iff_eq, beq_iff_eq]
  constructor
  · intro hs
    unfold rsum at hs
    have l1 := b[k].isLt
    have l2 := x.isLt
    apply BitVec.eq_of_toNat_eq
    rcases Nat.le_total b[k].toNat x.toNat with hle | hle
    · have h1 : x.toNat * 257 ^ (b.length - 1 - k) = b[k].toNat * 257 ^ (b.length - 1 - k) + (x.toNat - b[k].toNat) * 257 ^ (b.length - 1 - k) := by rw [← Nat.add_mul]; congr 1; omega
      have h2 : rval (b.set k x) = rval b + (x.toNat - b[k].toNat) * 257 ^ (b.length - 1 - k) := by omega
      have := far_dvd (x.toNat - b[k].toNat) (b.length - 1 - k) (by omega) (by
        generalize (x.toNat - b[k].toNat) * 257 ^ (b.length - 1 - k) = z at *
        omega)
      omega
    · have h1 : b[k].toNat * 257 ^ (b.length - 1 - k) = x.toNat * 257 ^ (b.length - 1 - k) + (b[k].toNat - x.toNat) * 257 ^ (b.length - 1 - k) := by rw [← Nat.add_mul]; congr 1; omega
      have h2 : rval b = rval (b.set k x) + (b[k].toNat - x.toNat) * 257 ^ (b.length - 1 - k) := by omega
      have := far_dvd (b[k].toNat - x.toNat) (b.length - 1 - k) (by omega) (by
        generalize (b[k].toNat - x.toNat) * 257 ^ (b.length - 1 - k) = z at *
        omega)
      omega
  · intro hx
    rw [← hx, List.set_getElem_self]
end Go.Proofs.YthpledfjopbchaaDoor
