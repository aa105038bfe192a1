/- Plain law: how many bytes a number takes, by how many bits it has. No condition. -/
import Derived.Test.YtgaphplndpdhaaaVar
import Derived.Lib.BitFns
namespace Go.Proofs.Ytgaphplndpdhaaa
theorem bitLen_pos (v : Nat) (h0 : v ≠ 0) (h : v < 2 ^ 64) : 1 ≤ Lib.bitLen v := by rw [Lib.bitLen_half v h0 h]; omega
theorem size_pos : ∀ (k v : Nat), v ≤ k → v ≠ 0 → v < 2 ^ 64 → (Lib.bitLen v + 6) / 7 = (digs v).length
  | 0, v, hk, h0, _ => absurd (Nat.le_zero.1 hk) h0
  | k + 1, v, hk, h0, h => by
    by_cases h1 : v < 128
    · rw [digs_lt v h1]
      have := Lib.bitLen_le v 7 (by omega) (by omega)
      have := bitLen_pos v h0 h
      simp; omega
    · rw [digs_ge v h1, List.length_cons, ← size_pos k (v / 128) (by omega) (by omega) (by omega)]
      have := Lib.bitLen_shift 7 v (by omega) h
      have e : v / 2 ^ 7 = v / 128 := rfl
      rw [e] at this
      omega
theorem size_len (v : Nat) (h : v < 18446744073709551616) : (Lib.bitLen (v / 2 * 2 + 1) + 6) / 7 = (digs v).length := by
  by_cases h0 : v = 0
  · subst h0; rw [digs_lt 0 (by omega)]; decide +kernel
  · rw [Lib.bitLen_half _ (by omega) (by omega), show (v / 2 * 2 + 1) / 2 = v / 2 by omega, ← Lib.bitLen_half v h0 (by omega)]
    exact size_pos v v (Nat.le_refl _) h0 (by omega)
end Go.Proofs.Ytgaphplndpdhaaa
