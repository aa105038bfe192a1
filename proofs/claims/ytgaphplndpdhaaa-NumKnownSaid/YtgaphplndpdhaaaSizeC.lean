/- Contracts: num.Size, signs, Fold, Open. No condition but that a number is one of 64 bits. -/
import Derived.Test.YtgaphplndpdhaaaLen
import Derived.Test.YtgaphplndpdhaaaBit
namespace Go.Proofs.Ytgaphplndpdhaaa
open Go.RowKit
set_option maxHeartbeats 400000 in
theorem size_any (v : Nat) (w : World) (hv : v < 18446744073709551616) :
    Calls Try.prog 11 #[.int .u64 (v : Int)] w fun e w' => e = .returned (.int .i64 ((digs v).length : Int)) ∧ w = w' := by
  have hs := size_len v hv
  have hb := Lib.bitLen_le (v / 2 * 2 + 1) 64 (by omega) (by omega)
  have k1 := u64_or1 v hv
  have hc := len64_any ((v / 2 * 2 + 1 : Nat) : Int) w (by omega) (by omega)
  rw [Int.toNat_natCast] at hc
  obtain ⟨m, hm⟩ : ∃ m, m = v / 2 * 2 + 1 := ⟨_, rfl⟩
  rw [← hm] at hs hb k1 hc
  obtain ⟨n, hn⟩ : ∃ n, n = Lib.bitLen m := ⟨_, rfl⟩
  rw [← hn] at hs hb hc
  obtain ⟨d, hd⟩ : ∃ d, d = (digs v).length := ⟨_, rfl⟩
  rw [← hd] at hs ⊢
  have HS := Lib.hid hs
  have HC := Lib.hid hc
  clear hm hn hd hs hc
  have n0 : (0 : Int) ≤ (n : Int) := by omega
  have n1 : (n : Int) ≤ 64 := by omega
  clear hb hv
  go_enter Try.func11, Try.ntmps11
  go_wp2_with ((with_reducible refine HC.out.mono ?_); rintro e w1 ⟨rfl, rfl⟩)
  go_ret
  exact ⟨congrArg Ending.returned (congrArg (Value.int IntKind.i64) (by have := HS.out; omega)), rfl⟩
theorem signs_zero (w : World) : Calls Try.prog 25 #[.int .u64 0] w fun e w' => e = .returned (.int .u64 0) ∧ w = w' := by
  go_enter Try.func25, Try.ntmps25
  go_wp2
  go_ret
  exact ⟨rfl, rfl⟩
theorem signs_one (w : World) : Calls Try.prog 25 #[.int .u64 1] w fun e w' => e = .returned (.int .u64 18446744073709551615) ∧ w = w' := by
  go_enter Try.func25, Try.ntmps25
  go_wp2
  go_ret
  exact ⟨rfl, rfl⟩
/-- A number with a sign as such without. -/
def foldI (v : Int) : Int := if v < 0 then -2 * v - 1 else 2 * v
def openI (v : Nat) : Int := if v % 2 = 1 then -((v / 2 : Nat) : Int) - 1 else ((v / 2 : Nat) : Int)
set_option maxHeartbeats 400000 in
theorem fold_any (v : Int) (w : World) (h0 : -9223372036854775808 ≤ v) (h1 : v ≤ 9223372036854775807) :
    Calls Try.prog 12 #[.int .i64 v] w fun e w' => e = .returned (.int .u64 (foldI v)) ∧ w = w' := by
  by_cases hv : v < 0
  · obtain ⟨m, hm⟩ : ∃ m : Nat, (m : Int) = 2 * v + 18446744073709551616 := ⟨(2 * v + 18446744073709551616).toNat, by omega⟩
    have k4 := u64_xorAll m (by omega)
    have HF : Hid (((18446744073709551615 - m : Nat) : Int) = foldI v) := Lib.hid (by unfold foldI; rw [if_pos hv]; omega)
    obtain ⟨r, hr⟩ : ∃ r, r = 18446744073709551615 - m := ⟨_, rfl⟩
    rw [← hr] at k4 HF
    have k1 : IntKind.u64.wrap v = v + 18446744073709551616 := by rw [IntKind.wrap_u64]; omega
    have k2 : (v + 18446744073709551616) / 9223372036854775808 = 1 := by omega
    have k3 : IntKind.u64.wrap ((v + 18446744073709551616) * 2) = (m : Int) := by rw [IntKind.wrap_u64]; omega
    clear hm hr hv
    generalize v + 18446744073709551616 = U at *
    go_enter Try.func12, Try.ntmps12
    go_wp2_with ((with_reducible refine (signs_one _).mono ?_); rintro e w1 ⟨rfl, rfl⟩)
    go_ret
    exact ⟨congrArg Ending.returned (congrArg (Value.int IntKind.u64) HF.out), rfl⟩
  · obtain ⟨m, hm⟩ : ∃ m : Nat, (m : Int) = 2 * v := ⟨(2 * v).toNat, by omega⟩
    have k4 := u64_xor0 m (by omega)
    have HF : Hid ((m : Int) = foldI v) := Lib.hid (by unfold foldI; rw [if_neg hv]; omega)
    have k1 : IntKind.u64.wrap v = v := by rw [IntKind.wrap_u64]; omega
    have k2 : v / 9223372036854775808 = 0 := by omega
    have k3 : IntKind.u64.wrap (v * 2) = (m : Int) := by rw [IntKind.wrap_u64]; omega
    clear hm hv
    go_enter Try.func12, Try.ntmps12
    go_wp2_with ((with_reducible refine (signs_zero _).mono ?_); rintro e w1 ⟨rfl, rfl⟩)
    go_ret
    exact ⟨congrArg Ending.returned (congrArg (Value.int IntKind.u64) HF.out), rfl⟩
set_option maxHeartbeats 400000 in
theorem open_any (v : Nat) (w : World) (hv : v < 18446744073709551616) :
    Calls Try.prog 13 #[.int .u64 (v : Int)] w fun e w' => e = .returned (.int .i64 (openI v)) ∧ w = w' := by
  have k1 := u64_and1 v hv
  have k2 : (v : Int) / 2 = ((v / 2 : Nat) : Int) := by omega
  by_cases hp : v % 2 = 1
  · have k4 := u64_xorAll (v / 2) (by omega)
    have k5 : IntKind.i64.wrap ((18446744073709551615 - v / 2 : Nat) : Int) = openI v := by unfold openI; rw [if_pos hp, IntKind.wrap_i64]; omega
    rw [hp] at k1
    generalize 18446744073709551615 - v / 2 = r at k4 k5
    generalize v / 2 = h at k2 k4
    generalize openI v = o at k5 ⊢
    clear hp
    go_enter Try.func13, Try.ntmps13
    go_wp2_with ((with_reducible refine (signs_one _).mono ?_); rintro e w1 ⟨rfl, rfl⟩)
    go_ret
    exact ⟨rfl, rfl⟩
  · have k4 := u64_xor0 (v / 2) (by omega)
    have k5 : IntKind.i64.wrap ((v / 2 : Nat) : Int) = openI v := by unfold openI; rw [if_neg hp, IntKind.wrap_i64]; omega
    rw [show v % 2 = 0 by omega] at k1
    generalize v / 2 = h at k2 k4 k5
    generalize openI v = o at k5 ⊢
    clear hp
    go_enter Try.func13, Try.ntmps13
    go_wp2_with ((with_reducible refine (signs_zero _).mono ?_); rintro e w1 ⟨rfl, rfl⟩)
    go_ret
    exact ⟨rfl, rfl⟩
end Go.Proofs.Ytgaphplndpdhaaa
