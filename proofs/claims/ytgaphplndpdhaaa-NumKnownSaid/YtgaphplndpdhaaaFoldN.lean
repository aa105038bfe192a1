/- Plain laws: folding and opening. No condition. -/
import Derived.Test.YtgaphplndpdhaaaAwake
namespace Go.Proofs.Ytgaphplndpdhaaa
open Go.RowKit
theorem fold_nat (v : Int) (h0 : -9223372036854775808 ≤ v) (h1 : v ≤ 9223372036854775807) : ∃ n : Nat, foldI v = (n : Int) ∧ n < 18446744073709551616 ∧ openI n = v ∧ (-64 ≤ v → v ≤ 63 → n < 128) := by
  refine ⟨(foldI v).toNat, ?_, ?_, ?_, ?_⟩
  all_goals
    unfold foldI
    try unfold openI
    split
  all_goals try omega
  all_goals split <;> omega
theorem open_bd (n : Nat) (h : n < 18446744073709551616) : -9223372036854775808 ≤ openI n ∧ openI n ≤ 9223372036854775807 ∧ foldI (openI n) = (n : Int) := by
  unfold foldI openI
  split <;> refine ⟨by omega, by omega, ?_⟩ <;> split <;> omega
end Go.Proofs.Ytgaphplndpdhaaa
