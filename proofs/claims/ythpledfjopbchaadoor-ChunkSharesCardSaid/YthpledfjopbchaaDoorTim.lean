/- Contracts: math/bits.Mul64, and package roll's own reckoning: plus, digit, times, with, without. Condition: rests are below 2^61 - 1. -/
import Derived.Test.YthpledfjopbchaaDoorProg
import Derived.Test.YthpledfjopbchaaDoorMod
import Derived.Shelf.Bits.Mul64
import Derived.KernelRfl
import Derived.Lib.Hide
import Derived.Laws.Bits64b
import Derived.Laws.Shifts
import Derived.IntWalk
namespace Go.Proofs.YthpledfjopbchaaDoor
open Go.RowKit
theorem mask61 (a : Nat) (ha : a < 18446744073709551616) : bits .and .u64 (a : Int) 2305843009213693951 = ((a % 2305843009213693952 : Nat) : Int) := by
  have h := bits_and_u64_nat a 2305843009213693951 ha (by omega)
  have e : a &&& 2305843009213693951 = a % 2305843009213693952 := Nat.and_two_pow_sub_one_eq_mod a 61
  rw [e] at h
  exact h
theorem wrapC (a : Nat) (ha : a < 18446744073709551616) : IntKind.u64.wrap (a : Int) = (a : Int) := by rw [IntKind.wrap_u64]; omega
/-- The library's Mul64, by this dump's numbers. -/
def renM : Go.Shelf.Ren := ⟨fun x => if x = 264 then 90 else x, fun x => if x = 46 then 96 else if x = 53 then 66 else x, fun x => x⟩
theorem laysM : Lays.n264 Tryd.prog renM where
  mixed := by kernel_rfl
  f264 := by kernel_rfl
  t46 := by kernel_rfl
  a46 := fun w => by kernel_rfl
  z46 := fun w => by kernel_rfl
  v46 := fun w => by kernel_rfl
  t53 := by kernel_rfl
  a53 := fun w => by kernel_rfl
  z53 := fun w => by kernel_rfl
  v53 := fun w => by kernel_rfl
theorem mul64_any (x y : Nat) (hx : x < 18446744073709551616) (hy : y < 18446744073709551616) (w : World) :
    Calls Tryd.prog 90 #[.int .u64 x, .int .u64 y] w fun e w' => e = .returned (.tuple #[.int .u64 ((x * y / 18446744073709551616 : Nat) : Int), .int .u64 ((x * y % 18446744073709551616 : Nat) : Int)]) ∧ w = w' :=
  Calls.mono (Any.bits_Mul64 laysM x y hx hy w) fun _ _ h => ⟨h.1, h.2.symm⟩
set_option maxHeartbeats 400000 in
theorem plus_any (a b : Nat) (h : a + b < 2 * 2305843009213693951) (w : World) :
    Calls Tryd.prog 91 #[.int .u64 (a : Int), .int .u64 (b : Int)] w fun e w' => e = .returned (.int .u64 (((a + b) % 2305843009213693951 : Nat) : Int)) ∧ w = w' := by
  have k1 : IntKind.u64.wrap ((a : Int) + (b : Int)) = ((a + b : Nat) : Int) := by rw [IntKind.wrap_u64]; omega
  obtain ⟨s, hs⟩ : ∃ s, s = a + b := ⟨_, rfl⟩
  rw [← hs] at k1 h ⊢
  clear hs
  by_cases hc : 2305843009213693951 ≤ s
  · have k2 : (2305843009213693951 : Int) ≤ (s : Int) := by omega
    have k3 : IntKind.u64.wrap ((s : Int) - 2305843009213693951) = ((s % 2305843009213693951 : Nat) : Int) := by rw [IntKind.wrap_u64]; omega
    generalize s % 2305843009213693951 = r at *
    clear h hc
    go_enter Tryd.func91, Tryd.ntmps91
    go_wp2_with fail
    go_ret
    exact ⟨rfl, rfl⟩
  · have k2 : ¬ (2305843009213693951 : Int) ≤ (s : Int) := by omega
    have hr : s % 2305843009213693951 = s := by omega
    rw [hr]
    clear h hc hr
    go_enter Tryd.func91, Tryd.ntmps91
    go_wp2_with fail
    go_ret
    exact ⟨rfl, rfl⟩
set_option maxHeartbeats 400000 in
theorem digit_any (c : BitVec 8) (w : World) :
    Calls Tryd.prog 92 #[.int .u8 (B c)] w fun e w' => e = .returned (.int .u64 ((c.toNat + 1 : Nat) : Int)) ∧ w = w' := by
  have h := c.isLt
  have k1 : IntKind.u64.wrap (B c) = (c.toNat : Int) := by unfold B; rw [IntKind.wrap_u64]; omega
  have k2 : IntKind.u64.wrap ((c.toNat : Int) + 1) = ((c.toNat + 1 : Nat) : Int) := by rw [IntKind.wrap_u64]; omega
  generalize c.toNat + 1 = r at *
  generalize c.toNat = q at *
  clear h
  go_enter Tryd.func92, Tryd.ntmps92
  go_wp2_with fail
  go_ret
  exact ⟨rfl, rfl⟩
theorem or_fold (a b : Nat) (ha : a < 288230376151711744) (hb : b < 8) : bits .or .u64 ((a * 8 : Nat) : Int) (b : Int) = ((a * 8 + b : Nat) : Int) := by
  rw [bits_or_u64_nat _ _ (by omega) (by omega)]
  congr 1
  have e : a * 8 = 2 ^ 3 * a := by omega
  rw [e, ← Nat.two_pow_add_eq_or_of_lt (by omega)]
set_option maxHeartbeats 400000 in
theorem times_any (a b : Nat) (ha : a < 2305843009213693951) (hb : b < 2305843009213693951) (w : World) :
    Calls Tryd.prog 86 #[.int .u64 (a : Int), .int .u64 (b : Int)] w fun e w' => e = .returned (.int .u64 ((a * b % 2305843009213693951 : Nat) : Int)) ∧ w = w' := by
  obtain ⟨f1, f2, f3⟩ := fold_lt a b ha hb
  have HM := Lib.hid (fun w1 => mul64_any a b (by omega) (by omega) w1)
  have hf := fold_mod (a * b)
  generalize hp : a * b = p at *
  have HP := Lib.hid (fun w1 => plus_any (p / 2305843009213693952) (p % 2305843009213693952) f1 w1)
  rw [hf] at HP
  have e1 : p / 18446744073709551616 * 8 + p % 18446744073709551616 / 2305843009213693952 = p / 2305843009213693952 := by omega
  have e2 : p % 18446744073709551616 % 2305843009213693952 = p % 2305843009213693952 := by omega
  have k1 : IntKind.u64.wrap (((p / 18446744073709551616 : Nat) : Int) * 8) = ((p / 18446744073709551616 * 8 : Nat) : Int) := by rw [IntKind.wrap_u64]; omega
  have k2 : ((p % 18446744073709551616 : Nat) : Int) / 2305843009213693952 = ((p % 18446744073709551616 / 2305843009213693952 : Nat) : Int) := by omega
  have k3 := or_fold (p / 18446744073709551616) (p % 18446744073709551616 / 2305843009213693952) f3 (by omega)
  have k4 := mask61 (p % 18446744073709551616) (by omega)
  rw [e1] at k3
  rw [e2] at k4
  clear e1 e2 f1 f2 f3 hf hp ha hb
  generalize p / 18446744073709551616 * 8 = u1 at *
  generalize p % 18446744073709551616 / 2305843009213693952 = u2 at *
  generalize p / 18446744073709551616 = u3 at *
  generalize p % 18446744073709551616 = u4 at *
  generalize p / 2305843009213693952 = u5 at *
  generalize p % 2305843009213693952 = u6 at *
  generalize p % 2305843009213693951 = u7 at *
  go_enter Tryd.func86, Tryd.ntmps86
  go_wp2_with (first | ((with_reducible refine (HM.out _).mono ?_); rintro e w1 ⟨rfl, rfl⟩) | ((with_reducible refine (HP.out _).mono ?_); rintro e w1 ⟨rfl, rfl⟩))
  go_ret
  exact ⟨rfl, rfl⟩
theorem times257_any (a : Nat) (ha : a < 2305843009213693951) (w : World) :
    Calls Tryd.prog 86 #[.int .u64 (a : Int), .int .u64 257] w fun e w' => e = .returned (.int .u64 ((a * 257 % 2305843009213693951 : Nat) : Int)) ∧ w = w' := times_any a 257 ha (by omega) w
set_option maxHeartbeats 400000 in
set_option maxRecDepth 20000 in
theorem with_any (s : Nat) (c : BitVec 8) (hs : s < 2305843009213693951) (w : World) :
    Calls Tryd.prog 88 #[.int .u64 (s : Int), .int .u8 (B c)] w fun e w' => e = .returned (.int .u64 (((s * 257 + (c.toNat + 1)) % 2305843009213693951 : Nat) : Int)) ∧ w = w' := by
  have hc := c.isLt
  have HT := Lib.hid (fun w1 => times257_any s hs w1)
  have HD := Lib.hid (fun w1 => digit_any c w1)
  have HP := Lib.hid (fun w1 => plus_any (s * 257 % 2305843009213693951) (c.toNat + 1) (by omega) w1)
  rw [Nat.mod_add_mod] at HP
  generalize (s * 257 + (c.toNat + 1)) % 2305843009213693951 = r at *
  generalize s * 257 % 2305843009213693951 = t at *
  generalize c.toNat + 1 = q at *
  clear hs hc
  go_enter Tryd.func88, Tryd.ntmps88
  go_wp2_with (first | ((with_reducible refine (HT.out _).mono ?_); rintro e w1 ⟨rfl, rfl⟩) | ((with_reducible refine (HD.out _).mono ?_); rintro e w1 ⟨rfl, rfl⟩) | ((with_reducible refine (HP.out _).mono ?_); rintro e w1 ⟨rfl, rfl⟩))
  go_ret
  exact ⟨rfl, rfl⟩
set_option maxHeartbeats 400000 in
theorem without_any (s : Nat) (c : BitVec 8) (f : Nat) (hs : s < 2305843009213693951) (hf : f < 2305843009213693951) (w : World) :
    Calls Tryd.prog 87 #[.int .u64 (s : Int), .int .u8 (B c), .int .u64 (f : Int)] w fun e w' => e = .returned (.int .u64 ((wo s c f : Nat) : Int)) ∧ w = w' := by
  have hc := c.isLt
  have HT := Lib.hid (fun w1 => times_any (c.toNat + 1) f (by omega) hf w1)
  have HD := Lib.hid (fun w1 => digit_any c w1)
  have HP := Lib.hid (fun w1 => plus_any s (2305843009213693951 - (c.toNat + 1) * f % 2305843009213693951) (by omega) w1)
  have HE : Hid ((s + (2305843009213693951 - (c.toNat + 1) * f % 2305843009213693951)) % 2305843009213693951 = wo s c f) := Lib.hid rfl
  have hlt : (c.toNat + 1) * f % 2305843009213693951 < 2305843009213693951 := Nat.mod_lt _ (by omega)
  generalize (c.toNat + 1) * f % 2305843009213693951 = t at *
  have k1 : IntKind.u64.wrap (2305843009213693951 - (t : Int)) = ((2305843009213693951 - t : Nat) : Int) := by rw [IntKind.wrap_u64]; omega
  rw [HE.out] at HP
  clear HE
  generalize wo s c f = r at *
  generalize 2305843009213693951 - t = u at *
  generalize c.toNat + 1 = q at *
  clear hs hc hf hlt
  go_enter Tryd.func87, Tryd.ntmps87
  go_wp2_with (first | ((with_reducible refine (HT.out _).mono ?_); rintro e w1 ⟨rfl, rfl⟩) | ((with_reducible refine (HD.out _).mono ?_); rintro e w1 ⟨rfl, rfl⟩) | ((with_reducible refine (HP.out _).mono ?_); rintro e w1 ⟨rfl, rfl⟩))
  go_ret
  exact ⟨rfl, rfl⟩
end Go.Proofs.YthpledfjopbchaaDoor
