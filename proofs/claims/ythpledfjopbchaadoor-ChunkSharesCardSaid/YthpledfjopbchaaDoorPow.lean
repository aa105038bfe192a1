/- Contracts: package roll's held, power, Slide. No condition but that a number is one of 64 bits. -/
import Derived.Test.YthpledfjopbchaaDoorTim
import Derived.Below
namespace Go.Proofs.YthpledfjopbchaaDoor
open Go.RowKit
/-- A width as it is held. -/
def hw (n : Int) : Nat := if n < 1 then 1 else if 64 < n then 64 else n.toNat
theorem hw_bd (n : Int) : 1 ≤ hw n ∧ hw n ≤ 64 := by unfold hw; split; · omega
                                                     split <;> omega
theorem i64_and1 (n : Nat) (h : n < 9223372036854775808) : bits .and .i64 (n : Int) 1 = ((n % 2 : Nat) : Int) := by
  have h1 : (BitVec.ofInt 64 (n : Int)).toNat = n := by
    rw [BitVec.ofInt_natCast, BitVec.toNat_ofNat]; exact Nat.mod_eq_of_lt (by omega)
  have e : n &&& 1 = n % 2 := Nat.and_two_pow_sub_one_eq_mod n 1
  show IntKind.i64.wrap ((BitVec.ofInt 64 (n : Int) &&& BitVec.ofInt 64 1).toNat : Int) = _
  rw [BitVec.toNat_and, h1, show (BitVec.ofInt 64 1).toNat = 1 from rfl, e]
  exact IntWalk.i64_in _ (by omega)
set_option maxHeartbeats 400000 in
theorem held_any (n : Int) (w : World) :
    Calls Tryd.prog 76 #[.int .i64 n] w fun e w' => e = .returned (.int .i64 ((hw n : Nat) : Int)) ∧ w = w' := by
  have HW : Hid ((hw n : Int) = if n < 1 then 1 else if 64 < n then 64 else n) := Lib.hid (by unfold hw; split; · rfl
                                                                                              split <;> omega)
  go_enter Tryd.func76, Tryd.ntmps76
  go_wp2_with fail
  all_goals
    go_ret
    refine ⟨congrArg Ending.returned (congrArg (Value.int IntKind.i64) ?_), rfl⟩
    rw [HW.out]
    omega
theorem i64_shr1 (n : Nat) (yk : IntKind) : Op.shift .shr .i64 (n : Int) yk 1 = pure (.int .i64 ((n / 2 : Nat) : Int)) := by
  rw [shift_shr_any _ _ _ _ (by omega)]
  have : min ((1 : Int).toNat) IntKind.i64.bits = 1 := rfl
  rw [this]
  congr 2
set_option maxHeartbeats 1000000 in
set_option maxRecDepth 100000 in
theorem power_any (N : Nat) (hN : N < 64) (w : World) :
    Calls Tryd.prog 77 #[.int .i64 (N : Int)] w fun e w' => e = .returned (.int .u64 ((pw N : Nat) : Int)) ∧ w = w' := by
  obtain ⟨K, hK⟩ : ∃ K, K = pw N := ⟨_, rfl⟩
  have hK2 : powC 1 257 N = K := by rw [hK, powC_pw]
  rw [← hK]
  have HK := Lib.hid hK2
  have HN := Lib.hid hN
  clear hK hK2 hN
  go_enter Tryd.func77, Tryd.ntmps77
  go_wp2_with fail
  go_loop [0, 3, 4] (fun vn va vs => ∃ n all sq : Nat, n < 64 ∧ vn = .int .i64 (n : Int) ∧ va = .int .u64 (all : Int) ∧ vs = .int .u64 (sq : Int) ∧ all < 2305843009213693951 ∧ sq < 2305843009213693951 ∧ powC all sq n = K) (fun vn _ _ => (intOf vn).toNat)
  case atStart => exact ⟨N, 1, 257, HN.out, rfl, rfl, rfl, by omega, by omega, HK.out⟩
  case round =>
    clear HK HN
    obtain ⟨n, all, sq, hn, rfl, rfl, rfl, ha, hs, hc⟩ := hrel
    by_cases h0 : n = 0
    · subst h0
      rw [powC_zero _ _ ha] at hc
      subst hc
      go_wp2_with fail
      go_ret
      exact ⟨rfl, rfl⟩
    · have k0 : (0 : Int) < (n : Int) := by omega
      have k1 := i64_and1 n (by omega)
      have k2 := i64_shr1 n
      have H1 := Lib.hid (fun w1 => times_any all sq ha hs w1)
      have H2 := Lib.hid (fun w1 => times_any sq sq hs hs w1)
      have Hn := Lib.hid (show n / 2 < 64 ∧ n / 2 < n by omega)
      have hq : sq * sq % 2305843009213693951 < 2305843009213693951 := Nat.mod_lt _ (by omega)
      have hr : all * sq % 2305843009213693951 < 2305843009213693951 := Nat.mod_lt _ (by omega)
      by_cases ho : n % 2 = 1
      · have HC := Lib.hid ((powC_odd all sq n ho).trans hc)
        rw [ho] at k1
        clear hc ho h0 hn
        have Ha := Lib.hid hr
        have Hs := Lib.hid hq
        clear ha hs hq hr
        generalize sq * sq % 2305843009213693951 = sq' at *
        generalize all * sq % 2305843009213693951 = all' at *
        go_wp2_with (first | ((with_reducible refine (H1.out _).mono ?_); rintro e w1 ⟨rfl, rfl⟩) | ((with_reducible refine (H2.out _).mono ?_); rintro e w1 ⟨rfl, rfl⟩))
        go_round
        case rel => exact ⟨n / 2, all', sq', Hn.out.1, rfl, rfl, rfl, Ha.out, Hs.out, HC.out⟩
        case measure => have := Hn.out.2; simp [intOf]; omega
      · have ho' : n % 2 = 0 := by omega
        have HC := Lib.hid ((powC_even all sq n ho').trans hc)
        rw [ho'] at k1
        clear hc ho h0 hn ho'
        have Ha := Lib.hid ha
        have Hs := Lib.hid hq
        clear ha hs hq hr H1
        generalize sq * sq % 2305843009213693951 = sq' at *
        go_wp2_with (first | ((with_reducible refine (H2.out _).mono ?_); rintro e w1 ⟨rfl, rfl⟩))
        go_round
        case rel => exact ⟨n / 2, all, sq', Hn.out.1, rfl, rfl, rfl, Ha.out, Hs.out, HC.out⟩
        case measure => have := Hn.out.2; simp [intOf]; omega
end Go.Proofs.YthpledfjopbchaaDoor
