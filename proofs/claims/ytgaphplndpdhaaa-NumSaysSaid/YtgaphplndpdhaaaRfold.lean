/- Contracts: the document's own Fold, Unfold. No condition but that the numbers are of 64 bits. -/
import Derived.Test.YtgaphplndpdhaaaRget
namespace Go.Proofs.Ytgaphplndpdhaaa
open Go.RowKit
theorem rfold_any (v : Int) (w : World) (h0 : -9223372036854775808 ≤ v) (h1 : v ≤ 9223372036854775807) :
    Calls Try.prog 19 #[.int .i64 v] w fun e w' => e = .returned (.int .u64 (foldI v)) ∧ w = w' := by
  by_cases hv : v < 0
  · have HF : Hid (2 * (-1 - v) + 1 = foldI v) := Lib.hid (by unfold foldI; rw [if_pos hv]; omega)
    obtain ⟨u, hu⟩ : ∃ u, v = -1 - u := ⟨-1 - v, by omega⟩
    have u0 : 0 ≤ u := by omega
    have u1 : u ≤ 9223372036854775807 := by omega
    have k0 : -1 - v = u := by omega
    rw [k0] at HF
    have k1 : -(v + 1) = u := by omega
    have k2 : IntKind.i64.wrap (-(v + 1)) = u := by rw [k1]; exact wraps_i64 _ (by omega) (by omega)
    have k3 : IntKind.u64.wrap u = u := wraps_u64 _ (by omega) (by omega)
    clear k0 hu
    go_enter Try.func19, Try.ntmps19
    go_wp2_with fail
    go_ret
    exact ⟨congrArg Ending.returned (congrArg (Value.int IntKind.u64) HF.out), rfl⟩
  · have HF : Hid (2 * v = foldI v) := Lib.hid (by unfold foldI; rw [if_neg hv])
    have k3 : IntKind.u64.wrap v = v := wraps_u64 _ (by omega) (by omega)
    have hv' : 0 ≤ v := by omega
    clear hv
    go_enter Try.func19, Try.ntmps19
    go_wp2_with fail
    go_ret
    exact ⟨congrArg Ending.returned (congrArg (Value.int IntKind.u64) HF.out), rfl⟩
theorem runfold_any (v : Nat) (w : World) (hv : v < 18446744073709551616) :
    Calls Try.prog 20 #[.int .u64 (v : Int)] w fun e w' => e = .returned (.int .i64 (openI v)) ∧ w = w' := by
  have k2 : (v : Int) / 2 = ((v / 2 : Nat) : Int) := by omega
  have hh : v / 2 ≤ 9223372036854775807 := by omega
  have k3 : IntKind.i64.wrap ((v / 2 : Nat) : Int) = ((v / 2 : Nat) : Int) := wraps_i64 _ (by omega) (by omega)
  by_cases hp : v % 2 = 1
  · have HF : Hid (-((v / 2 : Nat) : Int) - 1 = openI v) := Lib.hid (by unfold openI; rw [if_pos hp])
    have k1 : (((v : Int) % 2) == 1) = true := by rw [beq_iff_eq]; omega
    generalize v / 2 = h at *
    clear hp
    go_enter Try.func20, Try.ntmps20
    go_wp2_with fail
    go_ret
    exact ⟨congrArg Ending.returned (congrArg (Value.int IntKind.i64) HF.out), rfl⟩
  · have HF : Hid (((v / 2 : Nat) : Int) = openI v) := Lib.hid (by unfold openI; rw [if_neg hp])
    have k1 : (((v : Int) % 2) == 1) = false := by rw [beq_eq_false_iff_ne]; omega
    generalize v / 2 = h at *
    clear hp
    go_enter Try.func20, Try.ntmps20
    go_wp2_with fail
    go_ret
    exact ⟨congrArg Ending.returned (congrArg (Value.int IntKind.i64) HF.out), rfl⟩
end Go.Proofs.Ytgaphplndpdhaaa
