/- The walk of the law NumFolds: it returns true. No condition but that the arguments are numbers of 64 bits. -/
import Derived.Test.YtgaphplndpdhaabAwake
namespace Go.Proofs.Ytgaphplndpdhaab
open Go.RowKit
theorem fold_nat (v : Int) (h0 : -9223372036854775808 ≤ v) (h1 : v ≤ 9223372036854775807) : ∃ n : Nat, foldI v = (n : Int) ∧ n < 18446744073709551616 ∧ openI n = v ∧ (-64 ≤ v → v ≤ 63 → n < 128) := by
  refine ⟨(foldI v).toNat, ?_, ?_, ?_, ?_⟩
  all_goals
    unfold foldI
    try unfold openI
    split
  all_goals try omega
  all_goals split <;> omega
theorem open_bd (n : Nat) (h : n < 18446744073709551616) : -9223372036854775808 ≤ openI n ∧ openI n ≤ 9223372036854775807 ∧ foldI (openI n) = (n : Int) := by
  unfold foldI openI
  split <;> refine ⟨by omega, by omega, ?_⟩ <;> split <;> omega
set_option maxHeartbeats 1000000 in
theorem folds_any (v : Int) (u : Nat) (w : World) (h0 : -9223372036854775808 ≤ v) (h1 : v ≤ 9223372036854775807) (hu : u < 18446744073709551616) :
    Calls Try.prog 3 #[.int .i64 v, .int .u64 (u : Int)] w fun e w' => e = .returned (.bool true) ∧ Below w.heap.size w w' := by
  obtain ⟨n, hn, hnb, ho, hsm⟩ := fold_nat v h0 h1
  obtain ⟨b0, b1, b2⟩ := open_bd u hu
  have HA := Lib.hid (awake_any w)
  have H1 : Hid (∀ w1, Calls Try.prog 6 #[.int .i64 v] w1 fun e w' => e = .returned (.int .u64 (n : Int)) ∧ w1 = w') := Lib.hid (fun w1 => by rw [← hn]; exact fold_any v w1 h0 h1)
  have H2 : Hid (∀ w1, Calls Try.prog 5 #[.int .u64 (n : Int)] w1 fun e w' => e = .returned (.int .i64 v) ∧ w1 = w') := Lib.hid (fun w1 => by have := open_any n w1 hnb; rw [ho] at this; exact this)
  have H3 := Lib.hid (fun w1 => open_any u w1 hu)
  have H4 : Hid (∀ w1, Calls Try.prog 6 #[.int .i64 (openI u)] w1 fun e w' => e = .returned (.int .u64 (u : Int)) ∧ w1 = w') := Lib.hid (fun w1 => by have := fold_any (openI u) w1 b0 b1; rw [b2] at this; exact this)
  have H5 : Hid (-64 ≤ v → v ≤ 63 → ∀ w1, Calls Try.prog 7 #[.int .u64 (n : Int)] w1 fun e w' => e = .returned (.int .i64 1) ∧ w1 = w') := Lib.hid (fun a b w1 => by have := size_any n w1 hnb; rw [digs_lt n (hsm a b)] at this; exact this)
  clear hn ho b2 hsm
  generalize openI u = y at *
  have kv : (v == v) = true := by simp
  have ku : ((u : Int) == (u : Int)) = true := by simp
  by_cases c1 : v < -64
  · go_enter Try.func3, Try.ntmps3
    go_wp2_with fail
    refine HA.out.mono ?_
    rintro e w1 ⟨rfl, hb1⟩
    have HB := Lib.hid hb1
    clear hb1
    go_wp2_with (first | ((with_reducible refine (H1.out _).mono ?_); rintro e w2 ⟨rfl, rfl⟩) | ((with_reducible refine (H2.out _).mono ?_); rintro e w2 ⟨rfl, rfl⟩) | ((with_reducible refine (H3.out _).mono ?_); rintro e w2 ⟨rfl, rfl⟩) | ((with_reducible refine (H4.out _).mono ?_); rintro e w2 ⟨rfl, rfl⟩))
    go_ret
    exact ⟨rfl, HB.out⟩
  · by_cases c2 : 63 < v
    · go_enter Try.func3, Try.ntmps3
      go_wp2_with fail
      refine HA.out.mono ?_
      rintro e w1 ⟨rfl, hb1⟩
      have HB := Lib.hid hb1
      clear hb1
      go_wp2_with (first | ((with_reducible refine (H1.out _).mono ?_); rintro e w2 ⟨rfl, rfl⟩) | ((with_reducible refine (H2.out _).mono ?_); rintro e w2 ⟨rfl, rfl⟩) | ((with_reducible refine (H3.out _).mono ?_); rintro e w2 ⟨rfl, rfl⟩) | ((with_reducible refine (H4.out _).mono ?_); rintro e w2 ⟨rfl, rfl⟩))
      go_ret
      exact ⟨rfl, HB.out⟩
    · have H5 := Lib.hid (H5.out (by omega) (by omega))
      go_enter Try.func3, Try.ntmps3
      go_wp2_with fail
      refine HA.out.mono ?_
      rintro e w1 ⟨rfl, hb1⟩
      have HB := Lib.hid hb1
      clear hb1
      go_wp2_with (first | ((with_reducible refine (H1.out _).mono ?_); rintro e w2 ⟨rfl, rfl⟩) | ((with_reducible refine (H2.out _).mono ?_); rintro e w2 ⟨rfl, rfl⟩) | ((with_reducible refine (H3.out _).mono ?_); rintro e w2 ⟨rfl, rfl⟩) | ((with_reducible refine (H4.out _).mono ?_); rintro e w2 ⟨rfl, rfl⟩) | ((with_reducible refine (H5.out _).mono ?_); rintro e w2 ⟨rfl, rfl⟩))
      go_ret
      exact ⟨rfl, HB.out⟩
end Go.Proofs.Ytgaphplndpdhaab
