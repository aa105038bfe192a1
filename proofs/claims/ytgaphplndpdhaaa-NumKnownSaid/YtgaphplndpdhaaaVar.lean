/- Plain laws: numbers in bytes, seven bits each: what is written is read, cut short it is told, and a number has one writing alone. No condition. -/
import Derived.Test.YtgaphplndpdhaaaBv
namespace Go.Proofs.Ytgaphplndpdhaaa
def by8 (n : Nat) : BitVec 8 := BitVec.ofNat 8 n
theorem by8_toNat (n : Nat) (h : n < 256) : (by8 n).toNat = n := by unfold by8; simp; omega
theorem by8_eq (x : BitVec 8) : by8 x.toNat = x := by unfold by8; simp
theorem by8_of (x : BitVec 8) (n : Nat) (h : x.toNat = n) : x = by8 n := by rw [← h, by8_eq]
/-- A number in bytes. -/
def digs (v : Nat) : List (BitVec 8) := if v < 128 then [by8 v] else by8 (v % 128 + 128) :: digs (v / 128)
termination_by v
decreasing_by omega
theorem digs_lt (v : Nat) (h : v < 128) : digs v = [by8 v] := by rw [digs, if_pos h]
theorem digs_ge (v : Nat) (h : ¬ v < 128) : digs v = by8 (v % 128 + 128) :: digs (v / 128) := by rw [digs, if_neg h]
theorem digs_pos (v : Nat) : 0 < (digs v).length := by
  by_cases h : v < 128
  · rw [digs_lt v h]; simp
  · rw [digs_ge v h]; simp
theorem digs_len (k : Nat) : ∀ v, v < 128 ^ (k + 1) → (digs v).length ≤ k + 1 := by
  induction k with
  | zero => intro v h; rw [digs_lt v (by simpa using h)]; simp
  | succ k ih =>
    intro v h
    by_cases h1 : v < 128
    · rw [digs_lt v h1]; simp
    · rw [digs_ge v h1]
      have := ih (v / 128) (by rw [Nat.pow_succ] at h; omega)
      simp; omega
theorem digs_len10 (v : Nat) (h : v < 18446744073709551616) : (digs v).length ≤ 10 := digs_len 9 v (by have : (128:Nat) ^ 10 = 1180591620717411303424 := by decide +kernel
                                                                                                       omega)
/-- What Get answers, from byte i on, a having been read: the number, how many bytes, the error. -/
def getA : Nat → Nat → List (BitVec 8) → Nat × Nat × Nat
  | _, _, [] => (0, 0, 3)
  | i, a, x :: r =>
    if i = 9 ∧ 1 < x.toNat then (0, 0, 2)
    else if 128 ≤ x.toNat then getA (i + 1) (a + x.toNat % 128 * 128 ^ i) r
    else if x.toNat = 0 ∧ 0 < i then (0, 0, 2)
    else (a + x.toNat % 128 * 128 ^ i, i + 1, 0)
def getL (b : List (BitVec 8)) : Nat × Nat × Nat := getA 0 0 b
theorem getA_nil (i a : Nat) : getA i a [] = (0, 0, 3) := rfl
theorem getA_bad (i a : Nat) (x : BitVec 8) (r : List (BitVec 8)) (h : i = 9 ∧ 1 < x.toNat) : getA i a (x :: r) = (0, 0, 2) := by rw [getA, if_pos h]
theorem getA_more (i a : Nat) (x : BitVec 8) (r : List (BitVec 8)) (h : ¬ (i = 9 ∧ 1 < x.toNat)) (h2 : 128 ≤ x.toNat) : getA i a (x :: r) = getA (i + 1) (a + x.toNat % 128 * 128 ^ i) r := by rw [getA, if_neg h, if_pos h2]
theorem getA_long (i a : Nat) (x : BitVec 8) (r : List (BitVec 8)) (h3 : x.toNat = 0 ∧ 0 < i) : getA i a (x :: r) = (0, 0, 2) := by rw [getA, if_neg (by omega), if_neg (by omega), if_pos h3]
theorem getA_end (i a : Nat) (x : BitVec 8) (r : List (BitVec 8)) (h : ¬ (i = 9 ∧ 1 < x.toNat)) (h2 : ¬ 128 ≤ x.toNat) (h3 : ¬ (x.toNat = 0 ∧ 0 < i)) : getA i a (x :: r) = (a + x.toNat * 128 ^ i, i + 1, 0) := by
  rw [getA, if_neg h, if_neg h2, if_neg h3, Nat.mod_eq_of_lt (by omega)]
/-- What is written is read. -/
theorem getA_digs : ∀ (k v i a : Nat) (r : List (BitVec 8)), i + k = 9 → v < 2 * 128 ^ k → (0 < i → 0 < v) →
    getA i a (digs v ++ r) = (a + v * 128 ^ i, i + (digs v).length, 0)
  | 0, v, i, a, r, hi, hv, hp => by
    rw [digs_lt v (by omega), List.singleton_append, getA_end _ _ _ _ (by rw [by8_toNat _ (by omega)]; omega) (by rw [by8_toNat _ (by omega)]; omega) (by rw [by8_toNat _ (by omega)]; omega), by8_toNat _ (by omega)]
    rfl
  | k + 1, v, i, a, r, hi, hv, hp => by
    by_cases h : v < 128
    · rw [digs_lt v h, List.singleton_append, getA_end _ _ _ _ (by rw [by8_toNat _ (by omega)]; omega) (by rw [by8_toNat _ (by omega)]; omega) (by rw [by8_toNat _ (by omega)]; omega), by8_toNat _ (by omega)]
      rfl
    · have hm : v % 128 < 128 := Nat.mod_lt _ (by omega)
      rw [digs_ge v h, List.cons_append, getA_more _ _ _ _ (by omega) (by rw [by8_toNat _ (by omega)]; omega),
        getA_digs k (v / 128) (i + 1) _ r (by omega) (by rw [Nat.pow_succ] at hv; omega) (fun _ => by omega), by8_toNat _ (by omega)]
      have e1 : (v % 128 + 128) % 128 = v % 128 := by omega
      have e2 : v % 128 * 128 ^ i + v / 128 * (128 ^ i * 128) = v * 128 ^ i := by
        have e3 : v % 128 + v / 128 * 128 = v := by omega
        rw [Nat.mul_comm (128 ^ i) 128, ← Nat.mul_assoc, ← Nat.add_mul, e3]
      rw [e1, Nat.pow_succ, Nat.add_assoc, e2, List.length_cons, Nat.add_assoc, Nat.add_comm 1]
theorem getL_digs (v : Nat) (r : List (BitVec 8)) (h : v < 18446744073709551616) : getL (digs v ++ r) = (v, (digs v).length, 0) := by
  have := getA_digs 9 v 0 0 r (by omega) (by have : (128:Nat) ^ 9 = 9223372036854775808 := by decide +kernel
                                             omega) (fun h => by omega)
  simpa [getL] using this
/-- Cut short it is told. -/
theorem getA_cut : ∀ (k v i a j : Nat), i + k = 9 → v < 2 * 128 ^ k → j < (digs v).length → getA i a ((digs v).take j) = (0, 0, 3)
  | k, v, i, a, 0, hi, hv, hj => by rw [List.take_zero]; rfl
  | 0, v, i, a, j + 1, hi, hv, hj => by rw [digs_lt v (by omega)] at hj; simp at hj
  | k + 1, v, i, a, j + 1, hi, hv, hj => by
    by_cases h : v < 128
    · rw [digs_lt v h] at hj; simp at hj
    · have hm : v % 128 < 128 := Nat.mod_lt _ (by omega)
      rw [digs_ge v h] at hj ⊢
      rw [List.take_succ_cons, getA_more _ _ _ _ (by omega) (by rw [by8_toNat _ (by omega)]; omega)]
      exact getA_cut k (v / 128) (i + 1) _ j (by omega) (by rw [Nat.pow_succ] at hv; omega) (by simpa using hj)
theorem getL_cut (v j : Nat) (h : v < 18446744073709551616) (hj : j < (digs v).length) : getL ((digs v).take j) = (0, 0, 3) :=
  getA_cut 9 v 0 0 j (by omega) (by have : (128:Nat) ^ 9 = 9223372036854775808 := by decide +kernel
                                    omega) hj
/-- A number has one writing alone. -/
theorem getA_back : ∀ (b : List (BitVec 8)) (i a v n : Nat), i ≤ 9 → getA i a b = (v, n, 0) →
    ∃ u, v = a + u * 128 ^ i ∧ i < n ∧ n - i ≤ b.length ∧ digs u = b.take (n - i) ∧ (0 < i → 0 < u) ∧ u < 2 * 128 ^ (9 - i)
  | [], i, a, v, n, _, h => by rw [getA_nil] at h; simp at h
  | x :: r, i, a, v, n, hi, h => by
    have hx := x.isLt
    by_cases h1 : i = 9 ∧ 1 < x.toNat
    · rw [getA_bad _ _ _ _ h1] at h; simp at h
    by_cases h2 : 128 ≤ x.toNat
    · rw [getA_more _ _ _ _ h1 h2] at h
      obtain ⟨u, hv, hn, hl, hd, hp, hu⟩ := getA_back r (i + 1) _ v n (by omega) h
      have hp := hp (by omega)
      have hm : (x.toNat % 128 + u * 128) % 128 = x.toNat - 128 := by omega
      have hq : (x.toNat % 128 + u * 128) / 128 = u := by omega
      refine ⟨x.toNat % 128 + u * 128, ?_, by omega, by simp; omega, ?_, fun _ => by omega, ?_⟩
      · rw [hv, Nat.pow_succ, Nat.add_mul, Nat.add_assoc, Nat.mul_assoc u, Nat.mul_comm 128 (128 ^ i)]
      · rw [digs_ge _ (by omega), hm, hq, hd, show x.toNat - 128 + 128 = x.toNat by omega, by8_eq, show n - i = n - (i + 1) + 1 by omega, List.take_succ_cons]
      · rw [show 9 - i = 9 - (i + 1) + 1 by omega, Nat.pow_succ]
        omega
    by_cases h3 : x.toNat = 0 ∧ 0 < i
    · rw [getA_long _ _ _ _ h3] at h; simp at h
    · rw [getA_end _ _ _ _ h1 h2 h3] at h
      simp only [Prod.mk.injEq, and_true] at h
      refine ⟨x.toNat, h.1.symm, by omega, by simp; omega, ?_, fun _ => by omega, ?_⟩
      · rw [digs_lt _ (by omega), by8_eq, show n - i = 1 by omega]; rfl
      · by_cases h9 : i = 9
        · subst h9; simp; omega
        · have : 128 ^ 1 ≤ 128 ^ (9 - i) := Nat.pow_le_pow_right (by omega) (by omega)
          omega
theorem getL_back (b : List (BitVec 8)) (v n : Nat) (h : getL b = (v, n, 0)) : 0 < n ∧ n ≤ b.length ∧ digs v = b.take n ∧ v < 18446744073709551616 := by
  obtain ⟨u, hv, hn, hl, hd, _, hu⟩ := getA_back b 0 0 v n (by omega) h
  have h9 : (128:Nat) ^ (9 - 0) = 9223372036854775808 := by decide +kernel
  simp at hv hl hd
  subst hv
  exact ⟨hn, hl, hd, by omega⟩
/-- What it answers is small. -/
theorem getA_err (b : List (BitVec 8)) : ∀ (i a : Nat), (getA i a b).2.2 = 0 ∨ (getA i a b).2.2 = 2 ∧ (getA i a b).1 = 0 ∧ (getA i a b).2.1 = 0 ∨ (getA i a b).2.2 = 3 ∧ (getA i a b).1 = 0 ∧ (getA i a b).2.1 = 0 := by
  induction b with
  | nil => intro i a; exact .inr (.inr ⟨rfl, rfl, rfl⟩)
  | cons x r ih =>
    intro i a
    rw [getA]
    split
    · exact .inr (.inl ⟨rfl, rfl, rfl⟩)
    · split
      · exact ih _ _
      · split
        · exact .inr (.inl ⟨rfl, rfl, rfl⟩)
        · exact .inl rfl
end Go.Proofs.Ytgaphplndpdhaaa
