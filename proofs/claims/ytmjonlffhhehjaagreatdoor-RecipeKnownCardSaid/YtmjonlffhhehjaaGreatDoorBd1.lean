/- Plain laws: sums of windows by 2^61 - 1: how they grow by a byte behind, lose the first, and how products fold. No condition. -/
import Derived.Test.YtmjonlffhhehjaaGreatDoorBa1
import Derived.Test.YtmjonlffhhehjaaGreatDoorProg
import Derived.Shelf.Bits.Mul64
import Derived.KernelRfl
import Derived.Lib.Hide
import Derived.Laws.Bits64b
import Derived.Laws.Shifts
import Derived.IntWalk
import Derived.Below
import Derived.Deep.QuietTactic
import Derived.BigQuiet
import Derived.StillTailTactics
import Derived.Deep.DeepCutAuto
import Derived.Laws.Rows
import Derived.Laws.Tables
import Derived.Handy
namespace Go.Proofs.YtmjonlffhhehjaaGreatDoor
/-- A sum of bytes before the rest is taken. -/
def rval (b : List (BitVec 8)) : Nat := b.foldl (fun s c => s * 257 + (c.toNat + 1)) 0
def rsum (b : List (BitVec 8)) : Nat := rval b % 2305843009213693951
def pw (n : Nat) : Nat := 257 ^ n % 2305843009213693951
theorem rsum_lt (b : List (BitVec 8)) : rsum b < 2305843009213693951 := Nat.mod_lt _ (by omega)
theorem pw_lt (n : Nat) : pw n < 2305843009213693951 := Nat.mod_lt _ (by omega)
theorem rsum_nil : rsum [] = 0 := rfl
theorem rval_snoc (b : List (BitVec 8)) (c : BitVec 8) : rval (b ++ [c]) = rval b * 257 + (c.toNat + 1) := by
  unfold rval; rw [List.foldl_append]; rfl
theorem rsum_snoc (b : List (BitVec 8)) (c : BitVec 8) : rsum (b ++ [c]) = (rsum b * 257 + (c.toNat + 1)) % 2305843009213693951 := by
  unfold rsum; rw [rval_snoc]; omega
theorem rval_from (b : List (BitVec 8)) : ∀ s, b.foldl (fun s c => s * 257 + (c.toNat + 1)) s = s * 257 ^ b.length + rval b := by
  induction b with
  | nil => intro s; simp [rval]
  | cons x t ih =>
    intro s
    unfold rval
    rw [List.foldl_cons, List.foldl_cons, ih, ih (0 * 257 + (x.toNat + 1)), List.length_cons, Nat.pow_succ, Nat.zero_mul, Nat.zero_add, Nat.add_mul, Nat.mul_assoc, Nat.mul_comm 257, Nat.add_assoc]
theorem rval_cons (c : BitVec 8) (t : List (BitVec 8)) : rval (c :: t) = (c.toNat + 1) * 257 ^ t.length + rval t := by
  rw [rval, List.foldl_cons, rval_from, Nat.zero_mul, Nat.zero_add]
theorem rval_append (a b : List (BitVec 8)) : rval (a ++ b) = rval a * 257 ^ b.length + rval b := by
  unfold rval; rw [List.foldl_append]; exact rval_from b _
/-- A sum without its first byte. -/
def wo (s : Nat) (c : BitVec 8) (f : Nat) : Nat := (s + (2305843009213693951 - (c.toNat + 1) * f % 2305843009213693951)) % 2305843009213693951
theorem wo_lt (s : Nat) (c : BitVec 8) (f : Nat) : wo s c f < 2305843009213693951 := Nat.mod_lt _ (by omega)
theorem wo_rsum (c : BitVec 8) (t : List (BitVec 8)) : wo (rsum (c :: t)) c (pw t.length) = rsum t := by
  unfold wo rsum pw
  rw [Nat.mul_mod_mod, rval_cons]
  omega
/-- A sum moved by one. -/
def sl (s : Nat) (o i : BitVec 8) (n : Nat) : Nat := (wo (s % 2305843009213693951) o (pw (n - 1)) * 257 + (i.toNat + 1)) % 2305843009213693951
theorem sl_lt (s : Nat) (o i : BitVec 8) (n : Nat) : sl s o i n < 2305843009213693951 := Nat.mod_lt _ (by omega)
theorem sl_rsum (c x : BitVec 8) (t : List (BitVec 8)) : sl (rsum (c :: t)) c x (t.length + 1) = rsum (t ++ [x]) := by
  unfold sl
  rw [Nat.mod_eq_of_lt (rsum_lt _), Nat.add_sub_cancel, wo_rsum, rsum_snoc]
/-- A product's rest, folded. -/
theorem fold_mod (p : Nat) : (p / 2305843009213693952 + p % 2305843009213693952) % 2305843009213693951 = p % 2305843009213693951 := by omega
theorem mul_lt_mul' (a b : Nat) (ha : a < 2305843009213693951) (hb : b < 2305843009213693951) : a * b ≤ 5316911983139663482491379359414222500 ∧ a * b < 340282366920938463463374607431768211456 := by
  have h : a * b ≤ 2305843009213693950 * 2305843009213693950 := Nat.mul_le_mul (by omega) (by omega)
  omega
theorem fold_lt (a b : Nat) (ha : a < 2305843009213693951) (hb : b < 2305843009213693951) :
    a * b / 2305843009213693952 + a * b % 2305843009213693952 < 2 * 2305843009213693951 ∧ a * b / 2305843009213693952 < 2305843009213693951 ∧ a * b / 18446744073709551616 < 288230376151711744 := by
  have h := (mul_lt_mul' a b ha hb).1
  generalize a * b = p at *
  omega
/-- A power by squares: what stays. -/
def powC (all sq n : Nat) : Nat := all * sq ^ n % 2305843009213693951
theorem powC_odd (all sq n : Nat) (h : n % 2 = 1) : powC (all * sq % 2305843009213693951) (sq * sq % 2305843009213693951) (n / 2) = powC all sq n := by
  unfold powC
  have e : all * sq ^ n = all * sq * (sq * sq) ^ (n / 2) := by
    rw [show sq * sq = sq ^ 2 by rw [Nat.pow_two], ← Nat.pow_mul, Nat.mul_assoc]
    congr 1
    rw [show sq * sq ^ (2 * (n / 2)) = sq ^ (2 * (n / 2) + 1) by rw [Nat.pow_succ, Nat.mul_comm], show 2 * (n / 2) + 1 = n by omega]
  rw [e, Nat.mul_mod, Nat.mod_mod, ← Nat.pow_mod, ← Nat.mul_mod]
theorem powC_even (all sq n : Nat) (h : n % 2 = 0) : powC all (sq * sq % 2305843009213693951) (n / 2) = powC all sq n := by
  unfold powC
  have e : all * sq ^ n = all * (sq * sq) ^ (n / 2) := by
    rw [show sq * sq = sq ^ 2 by rw [Nat.pow_two], ← Nat.pow_mul, show 2 * (n / 2) = n by omega]
  rw [e, Nat.mul_mod, ← Nat.pow_mod, ← Nat.mul_mod]
theorem powC_zero (all sq : Nat) (h : all < 2305843009213693951) : powC all sq 0 = all := by unfold powC; rw [Nat.pow_zero, Nat.mul_one, Nat.mod_eq_of_lt h]
theorem powC_pw (n : Nat) : powC 1 257 n = pw n := by unfold powC pw; rw [Nat.one_mul]
/-- A product by doubling: what stays. -/
def mulC (r a b : Nat) : Nat := (r + a * b) % 2305843009213693951
theorem mulC_odd (r a b : Nat) (h : b % 2 = 1) : mulC ((r + a) % 2305843009213693951) ((a + a) % 2305843009213693951) (b / 2) = mulC r a b := by
  unfold mulC
  have e : r + a * b = (r + a) + (a + a) * (b / 2) := by
    have h1 : b = 2 * (b / 2) + 1 := by omega
    rw [show a * b = a * (2 * (b / 2) + 1) by rw [← h1], Nat.mul_add, ← Nat.mul_assoc, Nat.mul_one, show a * 2 = a + a by omega]
    omega
  rw [e, Nat.add_mod, Nat.mod_mod, Nat.mod_mul_mod, ← Nat.add_mod]
theorem mulC_even (r a b : Nat) (h : b % 2 = 0) : mulC r ((a + a) % 2305843009213693951) (b / 2) = mulC r a b := by
  unfold mulC
  have e : r + a * b = r + (a + a) * (b / 2) := by
    have h1 : b = 2 * (b / 2) := by omega
    rw [show a * b = a * (2 * (b / 2)) by rw [← h1], ← Nat.mul_assoc, show a * 2 = a + a by omega]
  rw [e, Nat.add_mod, Nat.mod_mul_mod, ← Nat.add_mod]
theorem mulC_zero (r a : Nat) (h : r < 2305843009213693951) : mulC r a 0 = r := by unfold mulC; rw [Nat.mul_zero, Nat.add_zero, Nat.mod_eq_of_lt h]
theorem mulC_start (a b : Nat) : mulC 0 a b = a * b % 2305843009213693951 := by unfold mulC; rw [Nat.zero_add]
theorem pw_zero : pw 0 = 1 := rfl
theorem pw_succ (c n : Nat) : (c * pw n % 2305843009213693951) * 257 % 2305843009213693951 = c * pw (n + 1) % 2305843009213693951 := by
  unfold pw
  rw [Nat.mul_mod_mod, Nat.mul_mod_mod, Nat.mod_mul_mod, Nat.pow_succ, Nat.mul_assoc]
/-- Texts of one length that have one byte unlike have sums that are unlike. -/
theorem far_dvd (d k : Nat) (hd : d < 2305843009213693951) (h : 2305843009213693951 ∣ d * 257 ^ k) : d = 0 := by
  have hc : Nat.Coprime 2305843009213693951 (257 ^ k) := Nat.Coprime.pow_right k (by decide +kernel)
  have := hc.dvd_of_dvd_mul_right h
  rcases Nat.eq_zero_or_pos d with h0 | h0
  · exact h0
  · have := Nat.le_of_dvd h0 this; omega
theorem rval_one (b : List (BitVec 8)) (k : Nat) (h : k < b.length) (x : BitVec 8) :
    rval (b.set k x) + b[k].toNat * 257 ^ (b.length - 1 - k) = rval b + x.toNat * 257 ^ (b.length - 1 - k) := by
  have e1 : b = b.take k ++ b[k] :: b.drop (k + 1) := by rw [← List.drop_eq_getElem_cons h, List.take_append_drop]
  have e2 : b.set k x = b.take k ++ x :: b.drop (k + 1) := by rw [List.set_eq_take_append_cons_drop, if_pos h]
  have hl : (b.drop (k + 1)).length = b.length - 1 - k := by rw [List.length_drop]; omega
  have h1 : rval b = rval (b.take k) * 257 ^ (b[k] :: b.drop (k + 1)).length + ((b[k].toNat + 1) * 257 ^ (b.length - 1 - k) + rval (b.drop (k + 1))) := by
    rw [← hl, ← rval_cons, ← rval_append, ← e1]
  rw [e2, h1, rval_append, rval_cons, hl, List.length_cons, List.length_cons]
  simp only [Nat.add_mul, Nat.one_mul]
  omega
theorem rsum_one (b : List (BitVec 8)) (k : Nat) (h : k < b.length) (x : BitVec 8) : (rsum b == rsum (b.set k x)) = (b[k] == x) := by
  have e := rval_one b k h x
  rw [Bool.eq_iff_iff, beq_iff_eq, beq_iff_eq]
  constructor
  · intro hs
    unfold rsum at hs
    have l1 := b[k].isLt
    have l2 := x.isLt
    apply BitVec.eq_of_toNat_eq
    rcases Nat.le_total b[k].toNat x.toNat with hle | hle
    · have h1 : x.toNat * 257 ^ (b.length - 1 - k) = b[k].toNat * 257 ^ (b.length - 1 - k) + (x.toNat - b[k].toNat) * 257 ^ (b.length - 1 - k) := by rw [← Nat.add_mul]; congr 1; omega
      have h2 : rval (b.set k x) = rval b + (x.toNat - b[k].toNat) * 257 ^ (b.length - 1 - k) := by omega
      have := far_dvd (x.toNat - b[k].toNat) (b.length - 1 - k) (by omega) (by
        generalize (x.toNat - b[k].toNat) * 257 ^ (b.length - 1 - k) = z at *
        omega)
      omega
    · have h1 : b[k].toNat * 257 ^ (b.length - 1 - k) = x.toNat * 257 ^ (b.length - 1 - k) + (b[k].toNat - x.toNat) * 257 ^ (b.length - 1 - k) := by rw [← Nat.add_mul]; congr 1; omega
      have h2 : rval b = rval (b.set k x) + (b[k].toNat - x.toNat) * 257 ^ (b.length - 1 - k) := by omega
      have := far_dvd (b[k].toNat - x.toNat) (b.length - 1 - k) (by omega) (by
        generalize (b[k].toNat - x.toNat) * 257 ^ (b.length - 1 - k) = z at *
        omega)
      omega
  · intro hx
    rw [← hx, List.set_getElem_self]
end Go.Proofs.YtmjonlffhhehjaaGreatDoor
/- Contracts: math/bits.Mul64, and package roll's own reckoning: plus, digit, times, with, without. Condition: rests are below 2^61 - 1. -/
namespace Go.Proofs.YtmjonlffhhehjaaGreatDoor
open Go.RowKit
theorem mask61 (a : Nat) (ha : a < 18446744073709551616) : bits .and .u64 (a : Int) 2305843009213693951 = ((a % 2305843009213693952 : Nat) : Int) := by
  have h := bits_and_u64_nat a 2305843009213693951 ha (by omega)
  have e : a &&& 2305843009213693951 = a % 2305843009213693952 := Nat.and_two_pow_sub_one_eq_mod a 61
  rw [e] at h
  exact h
theorem wrapC (a : Nat) (ha : a < 18446744073709551616) : IntKind.u64.wrap (a : Int) = (a : Int) := by rw [IntKind.wrap_u64]; omega
/-- The library's Mul64, by this dump's numbers. -/
def renM : Go.Shelf.Ren := ⟨fun x => if x = 264 then 174 else x, fun x => if x = 46 then 137 else if x = 53 then 95 else x, fun x => x⟩
theorem laysM : Lays.n264 Tryz.prog renM where
  mixed := by kernel_rfl
  f264 := by kernel_rfl
  t46 := by kernel_rfl
  a46 := fun w => by kernel_rfl
  z46 := fun w => by kernel_rfl
  v46 := fun w => by kernel_rfl
  t53 := by kernel_rfl
  a53 := fun w => by kernel_rfl
  z53 := fun w => by kernel_rfl
  v53 := fun w => by kernel_rfl
theorem mul64_any (x y : Nat) (hx : x < 18446744073709551616) (hy : y < 18446744073709551616) (w : World) :
    Calls Tryz.prog 174 #[.int .u64 x, .int .u64 y] w fun e w' => e = .returned (.tuple #[.int .u64 ((x * y / 18446744073709551616 : Nat) : Int), .int .u64 ((x * y % 18446744073709551616 : Nat) : Int)]) ∧ w = w' :=
  Calls.mono (Any.bits_Mul64 laysM x y hx hy w) fun _ _ h => ⟨h.1, h.2.symm⟩
set_option maxHeartbeats 400000 in
theorem plus_any (a b : Nat) (h : a + b < 2 * 2305843009213693951) (w : World) :
    Calls Tryz.prog 175 #[.int .u64 (a : Int), .int .u64 (b : Int)] w fun e w' => e = .returned (.int .u64 (((a + b) % 2305843009213693951 : Nat) : Int)) ∧ w = w' := by
  have k1 : IntKind.u64.wrap ((a : Int) + (b : Int)) = ((a + b : Nat) : Int) := by rw [IntKind.wrap_u64]; omega
  obtain ⟨s, hs⟩ : ∃ s, s = a + b := ⟨_, rfl⟩
  rw [← hs] at k1 h ⊢
  clear hs
  by_cases hc : 2305843009213693951 ≤ s
  · have k2 : (2305843009213693951 : Int) ≤ (s : Int) := by omega
    have k3 : IntKind.u64.wrap ((s : Int) - 2305843009213693951) = ((s % 2305843009213693951 : Nat) : Int) := by rw [IntKind.wrap_u64]; omega
    generalize s % 2305843009213693951 = r at *
    clear h hc
    go_enter Tryz.func175, Tryz.ntmps175
    go_wp2_with fail
    go_ret
    exact ⟨rfl, rfl⟩
  · have k2 : ¬ (2305843009213693951 : Int) ≤ (s : Int) := by omega
    have hr : s % 2305843009213693951 = s := by omega
    rw [hr]
    clear h hc hr
    go_enter Tryz.func175, Tryz.ntmps175
    go_wp2_with fail
    go_ret
    exact ⟨rfl, rfl⟩
set_option maxHeartbeats 400000 in
theorem digit_any (c : BitVec 8) (w : World) :
    Calls Tryz.prog 176 #[.int .u8 (B c)] w fun e w' => e = .returned (.int .u64 ((c.toNat + 1 : Nat) : Int)) ∧ w = w' := by
  have h := c.isLt
  have k1 : IntKind.u64.wrap (B c) = (c.toNat : Int) := by unfold B; rw [IntKind.wrap_u64]; omega
  have k2 : IntKind.u64.wrap ((c.toNat : Int) + 1) = ((c.toNat + 1 : Nat) : Int) := by rw [IntKind.wrap_u64]; omega
  generalize c.toNat + 1 = r at *
  generalize c.toNat = q at *
  clear h
  go_enter Tryz.func176, Tryz.ntmps176
  go_wp2_with fail
  go_ret
  exact ⟨rfl, rfl⟩
theorem or_fold (a b : Nat) (ha : a < 288230376151711744) (hb : b < 8) : bits .or .u64 ((a * 8 : Nat) : Int) (b : Int) = ((a * 8 + b : Nat) : Int) := by
  rw [bits_or_u64_nat _ _ (by omega) (by omega)]
  congr 1
  have e : a * 8 = 2 ^ 3 * a := by omega
  rw [e, ← Nat.two_pow_add_eq_or_of_lt (by omega)]
set_option maxHeartbeats 400000 in
theorem times_any (a b : Nat) (ha : a < 2305843009213693951) (hb : b < 2305843009213693951) (w : World) :
    Calls Tryz.prog 163 #[.int .u64 (a : Int), .int .u64 (b : Int)] w fun e w' => e = .returned (.int .u64 ((a * b % 2305843009213693951 : Nat) : Int)) ∧ w = w' := by
  obtain ⟨f1, f2, f3⟩ := fold_lt a b ha hb
  have HM := Lib.hid (fun w1 => mul64_any a b (by omega) (by omega) w1)
  have hf := fold_mod (a * b)
  generalize hp : a * b = p at *
  have HP := Lib.hid (fun w1 => plus_any (p / 2305843009213693952) (p % 2305843009213693952) f1 w1)
  rw [hf] at HP
  have e1 : p / 18446744073709551616 * 8 + p % 18446744073709551616 / 2305843009213693952 = p / 2305843009213693952 := by omega
  have e2 : p % 18446744073709551616 % 2305843009213693952 = p % 2305843009213693952 := by omega
  have k1 : IntKind.u64.wrap (((p / 18446744073709551616 : Nat) : Int) * 8) = ((p / 18446744073709551616 * 8 : Nat) : Int) := by rw [IntKind.wrap_u64]; omega
  have k2 : ((p % 18446744073709551616 : Nat) : Int) / 2305843009213693952 = ((p % 18446744073709551616 / 2305843009213693952 : Nat) : Int) := by omega
  have k3 := or_fold (p / 18446744073709551616) (p % 18446744073709551616 / 2305843009213693952) f3 (by omega)
  have k4 := mask61 (p % 18446744073709551616) (by omega)
  rw [e1] at k3
  rw [e2] at k4
  clear e1 e2 f1 f2 f3 hf hp ha hb
  generalize p / 18446744073709551616 * 8 = u1 at *
  generalize p % 18446744073709551616 / 2305843009213693952 = u2 at *
  generalize p / 18446744073709551616 = u3 at *
  generalize p % 18446744073709551616 = u4 at *
  generalize p / 2305843009213693952 = u5 at *
  generalize p % 2305843009213693952 = u6 at *
  generalize p % 2305843009213693951 = u7 at *
  go_enter Tryz.func163, Tryz.ntmps163
  go_wp2_with (first | ((with_reducible refine (HM.out _).mono ?_); rintro e w1 ⟨rfl, rfl⟩) | ((with_reducible refine (HP.out _).mono ?_); rintro e w1 ⟨rfl, rfl⟩))
  go_ret
  exact ⟨rfl, rfl⟩
theorem times257_any (a : Nat) (ha : a < 2305843009213693951) (w : World) :
    Calls Tryz.prog 163 #[.int .u64 (a : Int), .int .u64 257] w fun e w' => e = .returned (.int .u64 ((a * 257 % 2305843009213693951 : Nat) : Int)) ∧ w = w' := times_any a 257 ha (by omega) w
set_option maxHeartbeats 400000 in
set_option maxRecDepth 20000 in
theorem with_any (s : Nat) (c : BitVec 8) (hs : s < 2305843009213693951) (w : World) :
    Calls Tryz.prog 165 #[.int .u64 (s : Int), .int .u8 (B c)] w fun e w' => e = .returned (.int .u64 (((s * 257 + (c.toNat + 1)) % 2305843009213693951 : Nat) : Int)) ∧ w = w' := by
  have hc := c.isLt
  have HT := Lib.hid (fun w1 => times257_any s hs w1)
  have HD := Lib.hid (fun w1 => digit_any c w1)
  have HP := Lib.hid (fun w1 => plus_any (s * 257 % 2305843009213693951) (c.toNat + 1) (by omega) w1)
  rw [Nat.mod_add_mod] at HP
  generalize (s * 257 + (c.toNat + 1)) % 2305843009213693951 = r at *
  generalize s * 257 % 2305843009213693951 = t at *
  generalize c.toNat + 1 = q at *
  clear hs hc
  go_enter Tryz.func165, Tryz.ntmps165
  go_wp2_with (first | ((with_reducible refine (HT.out _).mono ?_); rintro e w1 ⟨rfl, rfl⟩) | ((with_reducible refine (HD.out _).mono ?_); rintro e w1 ⟨rfl, rfl⟩) | ((with_reducible refine (HP.out _).mono ?_); rintro e w1 ⟨rfl, rfl⟩))
  go_ret
  exact ⟨rfl, rfl⟩
set_option maxHeartbeats 400000 in
theorem without_any (s : Nat) (c : BitVec 8) (f : Nat) (hs : s < 2305843009213693951) (hf : f < 2305843009213693951) (w : World) :
    Calls Tryz.prog 164 #[.int .u64 (s : Int), .int .u8 (B c), .int .u64 (f : Int)] w fun e w' => e = .returned (.int .u64 ((wo s c f : Nat) : Int)) ∧ w = w' := by
  have hc := c.isLt
  have HT := Lib.hid (fun w1 => times_any (c.toNat + 1) f (by omega) hf w1)
  have HD := Lib.hid (fun w1 => digit_any c w1)
  have HP := Lib.hid (fun w1 => plus_any s (2305843009213693951 - (c.toNat + 1) * f % 2305843009213693951) (by omega) w1)
  have HE : Hid ((s + (2305843009213693951 - (c.toNat + 1) * f % 2305843009213693951)) % 2305843009213693951 = wo s c f) := Lib.hid rfl
  have hlt : (c.toNat + 1) * f % 2305843009213693951 < 2305843009213693951 := Nat.mod_lt _ (by omega)
  generalize (c.toNat + 1) * f % 2305843009213693951 = t at *
  have k1 : IntKind.u64.wrap (2305843009213693951 - (t : Int)) = ((2305843009213693951 - t : Nat) : Int) := by rw [IntKind.wrap_u64]; omega
  rw [HE.out] at HP
  clear HE
  generalize wo s c f = r at *
  generalize 2305843009213693951 - t = u at *
  generalize c.toNat + 1 = q at *
  clear hs hc hf hlt
  go_enter Tryz.func164, Tryz.ntmps164
  go_wp2_with (first | ((with_reducible refine (HT.out _).mono ?_); rintro e w1 ⟨rfl, rfl⟩) | ((with_reducible refine (HD.out _).mono ?_); rintro e w1 ⟨rfl, rfl⟩) | ((with_reducible refine (HP.out _).mono ?_); rintro e w1 ⟨rfl, rfl⟩))
  go_ret
  exact ⟨rfl, rfl⟩
end Go.Proofs.YtmjonlffhhehjaaGreatDoor
/- Contracts: package roll's held, power, Slide. No condition but that a number is one of 64 bits. -/
namespace Go.Proofs.YtmjonlffhhehjaaGreatDoor
open Go.RowKit
/-- A width as it is held. -/
def hw (n : Int) : Nat := if n < 1 then 1 else if 64 < n then 64 else n.toNat
theorem hw_bd (n : Int) : 1 ≤ hw n ∧ hw n ≤ 64 := by unfold hw; split; · omega
                                                     split <;> omega
theorem i64_and1 (n : Nat) (h : n < 9223372036854775808) : bits .and .i64 (n : Int) 1 = ((n % 2 : Nat) : Int) := by
  have h1 : (BitVec.ofInt 64 (n : Int)).toNat = n := by
    rw [BitVec.ofInt_natCast, BitVec.toNat_ofNat]; exact Nat.mod_eq_of_lt (by omega)
  have e : n &&& 1 = n % 2 := Nat.and_two_pow_sub_one_eq_mod n 1
  show IntKind.i64.wrap ((BitVec.ofInt 64 (n : Int) &&& BitVec.ofInt 64 1).toNat : Int) = _
  rw [BitVec.toNat_and, h1, show (BitVec.ofInt 64 1).toNat = 1 from rfl, e]
  exact IntWalk.i64_in _ (by omega)
set_option maxHeartbeats 400000 in
theorem held_any (n : Int) (w : World) :
    Calls Tryz.prog 141 #[.int .i64 n] w fun e w' => e = .returned (.int .i64 ((hw n : Nat) : Int)) ∧ w = w' := by
  have HW : Hid ((hw n : Int) = if n < 1 then 1 else if 64 < n then 64 else n) := Lib.hid (by unfold hw; split; · rfl
                                                                                              split <;> omega)
  go_enter Tryz.func141, Tryz.ntmps141
  go_wp2_with fail
  all_goals
    go_ret
    refine ⟨congrArg Ending.returned (congrArg (Value.int IntKind.i64) ?_), rfl⟩
    rw [HW.out]
    omega
theorem i64_shr1 (n : Nat) (yk : IntKind) : Op.shift .shr .i64 (n : Int) yk 1 = pure (.int .i64 ((n / 2 : Nat) : Int)) := by
  rw [shift_shr_any _ _ _ _ (by omega)]
  have : min ((1 : Int).toNat) IntKind.i64.bits = 1 := rfl
  rw [this]
  congr 2
set_option maxHeartbeats 1000000 in
set_option maxRecDepth 100000 in
theorem power_any (N : Nat) (hN : N < 64) (w : World) :
    Calls Tryz.prog 142 #[.int .i64 (N : Int)] w fun e w' => e = .returned (.int .u64 ((pw N : Nat) : Int)) ∧ w = w' := by
  obtain ⟨K, hK⟩ : ∃ K, K = pw N := ⟨_, rfl⟩
  have hK2 : powC 1 257 N = K := by rw [hK, powC_pw]
  rw [← hK]
  have HK := Lib.hid hK2
  have HN := Lib.hid hN
  clear hK hK2 hN
  go_enter Tryz.func142, Tryz.ntmps142
  go_wp2_with fail
  go_loop [0, 3, 4] (fun vn va vs => ∃ n all sq : Nat, n < 64 ∧ vn = .int .i64 (n : Int) ∧ va = .int .u64 (all : Int) ∧ vs = .int .u64 (sq : Int) ∧ all < 2305843009213693951 ∧ sq < 2305843009213693951 ∧ powC all sq n = K) (fun vn _ _ => (intOf vn).toNat)
  case atStart => exact ⟨N, 1, 257, HN.out, rfl, rfl, rfl, by omega, by omega, HK.out⟩
  case round =>
    clear HK HN
    obtain ⟨n, all, sq, hn, rfl, rfl, rfl, ha, hs, hc⟩ := hrel
    by_cases h0 : n = 0
    · subst h0
      rw [powC_zero _ _ ha] at hc
      subst hc
      go_wp2_with fail
      go_ret
      exact ⟨rfl, rfl⟩
    · have k0 : (0 : Int) < (n : Int) := by omega
      have k1 := i64_and1 n (by omega)
      have k2 := i64_shr1 n
      have H1 := Lib.hid (fun w1 => times_any all sq ha hs w1)
      have H2 := Lib.hid (fun w1 => times_any sq sq hs hs w1)
      have Hn := Lib.hid (show n / 2 < 64 ∧ n / 2 < n by omega)
      have hq : sq * sq % 2305843009213693951 < 2305843009213693951 := Nat.mod_lt _ (by omega)
      have hr : all * sq % 2305843009213693951 < 2305843009213693951 := Nat.mod_lt _ (by omega)
      by_cases ho : n % 2 = 1
      · have HC := Lib.hid ((powC_odd all sq n ho).trans hc)
        rw [ho] at k1
        clear hc ho h0 hn
        have Ha := Lib.hid hr
        have Hs := Lib.hid hq
        clear ha hs hq hr
        generalize sq * sq % 2305843009213693951 = sq' at *
        generalize all * sq % 2305843009213693951 = all' at *
        go_wp2_with (first | ((with_reducible refine (H1.out _).mono ?_); rintro e w1 ⟨rfl, rfl⟩) | ((with_reducible refine (H2.out _).mono ?_); rintro e w1 ⟨rfl, rfl⟩))
        go_round
        case rel => exact ⟨n / 2, all', sq', Hn.out.1, rfl, rfl, rfl, Ha.out, Hs.out, HC.out⟩
        case measure => have := Hn.out.2; simp [intOf]; omega
      · have ho' : n % 2 = 0 := by omega
        have HC := Lib.hid ((powC_even all sq n ho').trans hc)
        rw [ho'] at k1
        clear hc ho h0 hn ho'
        have Ha := Lib.hid ha
        have Hs := Lib.hid hq
        clear ha hs hq hr H1
        generalize sq * sq % 2305843009213693951 = sq' at *
        go_wp2_with (first | ((with_reducible refine (H2.out _).mono ?_); rintro e w1 ⟨rfl, rfl⟩))
        go_round
        case rel => exact ⟨n / 2, all, sq', Hn.out.1, rfl, rfl, rfl, Ha.out, Hs.out, HC.out⟩
        case measure => have := Hn.out.2; simp [intOf]; omega
end Go.Proofs.YtmjonlffhhehjaaGreatDoor
/- Contracts: roll.Of; the document's own times, Roll and Slide. Condition: a text is of fewer than 2^63 bytes. -/
namespace Go.Proofs.YtmjonlffhhehjaaGreatDoor
open Go.RowKit
theorem quiet_same {P : Program} {f : FuncId} {args : Array Value} {w : World} {n : Nat} {v : Value}
    (h : Calls P f args (w.drewN n) fun e w' => e = .returned v ∧ w.drewN n = w') : Calls P f args (w.drewN n) fun e w'' => e = .returned v ∧ ∃ m, w'' = w.drewN m :=
  h.mono fun _ _ ⟨he, hm⟩ => ⟨he, n, hm.symm⟩
theorem u8v_B (l : List (BitVec 8)) (k : Nat) (h : k < l.length) : (l.map u8v)[k]? = some (.int .u8 (B (at8 l k))) := at8_of l k h
theorem rsum_take (b : List (BitVec 8)) (k : Nat) (h : k < b.length) : (rsum (b.take k) * 257 + ((at8 b k).toNat + 1)) % 2305843009213693951 = rsum (b.take (k + 1)) := by
  rw [take_at8 b k h, rsum_snoc]
set_option maxHeartbeats 1000000 in
set_option maxRecDepth 100000 in
theorem rtimes_any (x y : Nat) (hx : x < 2305843009213693951) (hy : y < 18446744073709551616) (w : World) :
    Calls Tryz.prog 156 #[.int .u64 (x : Int), .int .u64 (y : Int)] w fun e w' => e = .returned (.int .u64 ((x * y % 2305843009213693951 : Nat) : Int)) ∧ w = w' := by
  obtain ⟨K, hK⟩ : ∃ K, K = x * y % 2305843009213693951 := ⟨_, rfl⟩
  have hK2 : mulC 0 x y = K := by rw [hK, mulC_start]
  rw [← hK]
  have HK := Lib.hid hK2
  have HX := Lib.hid hx
  have HY := Lib.hid hy
  clear hK hK2 hx hy
  go_enter Tryz.func156, Tryz.ntmps156
  go_wp2_with fail
  go_loop [0, 1, 5] (fun va vb vr => ∃ a b r : Nat, va = .int .u64 (a : Int) ∧ vb = .int .u64 (b : Int) ∧ vr = .int .u64 (r : Int) ∧ a < 2305843009213693951 ∧ r < 2305843009213693951 ∧ b < 18446744073709551616 ∧ mulC r a b = K) (fun _ vb _ => (intOf vb).toNat)
  case atStart => exact ⟨x, y, 0, rfl, rfl, rfl, HX.out, by omega, HY.out, HK.out⟩
  case round =>
    clear HK HX HY
    obtain ⟨a, b, r, rfl, rfl, rfl, ha, hr, hb, hc⟩ := hrel
    by_cases h0 : b = 0
    · subst h0
      rw [mulC_zero _ _ hr] at hc
      subst hc
      clear hb
      go_wp2_with fail
      go_ret
      exact ⟨rfl, rfl⟩
    · have k0 : (0 : Int) < (b : Int) := by omega
      have k1 : (b : Int) % 2 = ((b % 2 : Nat) : Int) := by omega
      have k2 : (b : Int).tdiv 2 = ((b / 2 : Nat) : Int) := rfl
      have k7 : IntKind.u64.wrap ((b / 2 : Nat) : Int) = ((b / 2 : Nat) : Int) := wrapC _ (by omega)
      have k3 : IntKind.u64.wrap ((a : Int) + (a : Int)) = ((a + a : Nat) : Int) := by rw [IntKind.wrap_u64]; omega
      have k4 : ((a + a : Nat) : Int) % 2305843009213693951 = (((a + a) % 2305843009213693951 : Nat) : Int) := by omega
      have k5 : IntKind.u64.wrap ((r : Int) + (a : Int)) = ((r + a : Nat) : Int) := by rw [IntKind.wrap_u64]; omega
      have k6 : ((r + a : Nat) : Int) % 2305843009213693951 = (((r + a) % 2305843009213693951 : Nat) : Int) := by omega
      have Hn := Lib.hid (show b / 2 < 18446744073709551616 ∧ b / 2 < b by omega)
      have Ha := Lib.hid (show (a + a) % 2305843009213693951 < 2305843009213693951 from Nat.mod_lt _ (by omega))
      have Hr := Lib.hid (show (r + a) % 2305843009213693951 < 2305843009213693951 from Nat.mod_lt _ (by omega))
      by_cases ho : b % 2 = 1
      · have HC := Lib.hid ((mulC_odd r a b ho).trans hc)
        rw [ho] at k1
        clear hc ho h0 hr hb ha
        generalize b / 2 = b' at *
        generalize (a + a) % 2305843009213693951 = a' at *
        generalize (r + a) % 2305843009213693951 = r' at *
        generalize a + a = a2 at *
        generalize r + a = r2 at *
        go_wp2_with fail
        go_round
        case rel => exact ⟨a', b', r', by rw [k4], rfl, by rw [k6], Ha.out, Hr.out, Hn.out.1, HC.out⟩
        case measure => have := Hn.out.2; simp [intOf]; omega
      · have ho' : b % 2 = 0 := by omega
        have HC := Lib.hid ((mulC_even r a b ho').trans hc)
        have Hr2 := Lib.hid hr
        rw [ho'] at k1
        clear hc ho ho' h0 hr hb ha k5 k6 Hr
        generalize b / 2 = b' at *
        generalize (a + a) % 2305843009213693951 = a' at *
        generalize a + a = a2 at *
        go_wp2_with fail
        go_round
        case rel => exact ⟨a', b', r, by rw [k4], rfl, rfl, Ha.out, Hr2.out, Hn.out.1, HC.out⟩
        case measure => have := Hn.out.2; simp [intOf]; omega
theorem rtimes257_any (x : Nat) (hx : x < 2305843009213693951) (w : World) :
    Calls Tryz.prog 156 #[.int .u64 (x : Int), .int .u64 257] w fun e w' => e = .returned (.int .u64 ((x * 257 % 2305843009213693951 : Nat) : Int)) ∧ w = w' := rtimes_any x 257 hx (by omega) w
set_option maxHeartbeats 1000000 in
set_option maxRecDepth 100000 in
theorem rroll_any (b : List (BitVec 8)) (q : Option Addr) (c : Nat) (w : World) (hs : Sees w w.heap.size q (b.map u8v)) (hl : b.length < 9223372036854775807) :
    Calls Tryz.prog 130 #[.slice q b.length c] w fun e w' => e = .returned (.int .u64 ((rsum b : Nat) : Int)) ∧ Below w.heap.size w w' := by
  have HS := Lib.hid hs
  clear hs
  go_enter Tryz.func130, Tryz.ntmps130
  go_wp2_with fail
  go_loopw [3, 4] (fun v i wr => ∃ k s : Nat, k ≤ b.length ∧ i = .int .i64 k ∧ v = .int .u64 (s : Int) ∧ s = rsum (b.take k) ∧ Below w.heap.size w wr) (fun _ i _ => b.length - (intOf i).toNat)
  case atStart => exact ⟨0, 0, by omega, rfl, rfl, rfl, Below.refl _ _⟩
  case round =>
    rename_i wr
    obtain ⟨k, s, hk, rfl, rfl, hv, hB⟩ := hrel
    have HB := Lib.hid hB
    by_cases hlt : k < b.length
    · obtain ⟨p, rfl, _, hcell⟩ := (HS.out.keep hB) (by simp; omega)
      have hx := hcell k _ (at8_of b k hlt)
      have hr := rsum_take b k hlt
      have hsl : s < 2305843009213693951 := by rw [hv]; exact rsum_lt _
      rw [← hv] at hr
      have hc := (at8 b k).isLt
      have H1 := Lib.hid (fun w1 => rtimes257_any s hsl w1)
      have htl : s * 257 % 2305843009213693951 < 2305843009213693951 := Nat.mod_lt _ (by omega)
      rw [← Nat.mod_add_mod] at hr
      obtain ⟨s', hs'⟩ : ∃ s', s' = rsum (b.take (k + 1)) := ⟨_, rfl⟩
      rw [← hs'] at hr
      have HR := Lib.hid hs'
      generalize s * 257 % 2305843009213693951 = t at *
      unfold B at hx
      generalize (at8 b k).toNat = m at *
      have k1 : IntKind.u64.wrap (m : Int) = (m : Int) := wrapC _ (by omega)
      have k2 : IntKind.u64.wrap ((t : Int) + (m : Int)) = ((t + m : Nat) : Int) := by rw [IntKind.wrap_u64]; omega
      have k3 : IntKind.u64.wrap (((t + m : Nat) : Int) + 1) = ((t + m + 1 : Nat) : Int) := by rw [IntKind.wrap_u64]; omega
      have k4 : ((t + m + 1 : Nat) : Int) % 2305843009213693951 = (s' : Int) := by omega
      clear hcell hr hsl hv hs' hB htl hc
      generalize t + m + 1 = t2 at *
      generalize t + m = t1 at *
      go_wp2_with fail
      go_quiet (exact quiet_same (H1.out _))
      have HB2 := Lib.hid (below_drewN HB.out nq)
      generalize wr.drewN nq = wq at HB2 ⊢
      go_wp2_with fail
      go_round
      case rel => exact ⟨k + 1, s', by omega, by go_num, by rw [k4], HR.out, HB2.out⟩
      case measure => simp [intOf]; omega
    · have hkl : k = b.length := by omega
      rw [hkl, List.take_length] at hv
      subst hv
      have k1 : ¬ (k : Int) < (b.length : Int) := by omega
      clear hlt hkl hB
      go_wp2_with fail
      go_ret
      exact ⟨rfl, HB.out⟩
end Go.Proofs.YtmjonlffhhehjaaGreatDoor
/- Contracts: roll.New, Len, Sum, Reset: a window in memory. No condition. -/
namespace Go.Proofs.YtmjonlffhhehjaaGreatDoor
open Go.RowKit
/-- But for block g the world is as it was. -/
structure Only (g : Nat) (w w' : World) : Prop where
  os : w'.os = w.os
  tape : w'.tape = w.tape
  output : w'.output = w.output
  size : w'.heap.size = w.heap.size
  block : ∀ k, k ≠ g → w'.heap[k]? = w.heap[k]?
namespace Only
variable {g : Nat} {a b c : World}
theorem refl (g : Nat) (w : World) : Only g w w := ⟨rfl, rfl, rfl, rfl, fun _ _ => rfl⟩
theorem trans (h : Only g a b) (k : Only g b c) : Only g a c := ⟨k.os.trans h.os, k.tape.trans h.tape, k.output.trans h.output, k.size.trans h.size, fun i hi => (k.block i hi).trans (h.block i hi)⟩
theorem drew (h : Only g a b) : Only g a b.drew := ⟨h.os, h.tape, h.output, h.size, h.block⟩
theorem drewN (h : Only g a b) (n : Nat) : Only g a (b.drewN n) := ⟨h.os, h.tape, h.output, h.size, h.block⟩
theorem setCell (h : Only g a b) (i : Nat) (u : Value) : Only g a (b.setCell ⟨g, i, none⟩ u) :=
  h.trans ⟨rfl, rfl, rfl, by simp [World.setCell], fun k hk => Below.heap_setCell _ _ _ _ hk⟩
theorem setRow (h : Only g a b) (cs : Array Value) : Only g a (b.setRow g cs) := h.trans ⟨rfl, rfl, rfl, by rw [size_setRow], fun k hk => setRow_other b g k cs hk⟩
theorem below (h : Only g a b) : Below g a b := ⟨h.os, h.tape, h.output, Nat.le_of_eq h.size.symm, fun k hk => h.block k (by omega)⟩
theorem has (h : Only g a b) {k : Nat} {t : TypeId} {l : List Value} (hk : k ≠ g) (hh : Has a k t l) : Has b k t l := (h.block k hk).trans hh
end Only
/-- A window's cells. -/
def roll5 (P : List Value) (a b c d e : Value) : List Value := P ++ [a, b, c, d, e]
section
variable (P : List Value) (a b c d e v : Value) (h : P.length = 64)
include h
theorem roll5_64 : (roll5 P a b c d e)[64]? = some a := by unfold roll5; rw [List.getElem?_append_right (by omega), h]; rfl
theorem roll5_65 : (roll5 P a b c d e)[65]? = some b := by unfold roll5; rw [List.getElem?_append_right (by omega), h]; rfl
theorem roll5_66 : (roll5 P a b c d e)[66]? = some c := by unfold roll5; rw [List.getElem?_append_right (by omega), h]; rfl
theorem roll5_67 : (roll5 P a b c d e)[67]? = some d := by unfold roll5; rw [List.getElem?_append_right (by omega), h]; rfl
theorem roll5_68 : (roll5 P a b c d e)[68]? = some e := by unfold roll5; rw [List.getElem?_append_right (by omega), h]; rfl
theorem roll5_at (i : Nat) (hi : i < 64) : (roll5 P a b c d e)[i]? = P[i]? := by unfold roll5; rw [List.getElem?_append_left (by omega)]
theorem roll5_put65 : (roll5 P a b c d e).set 65 v = roll5 P a v c d e := by unfold roll5; rw [List.set_append_right _ _ (by omega), h]; rfl
theorem roll5_put66 : (roll5 P a b c d e).set 66 v = roll5 P a b v d e := by unfold roll5; rw [List.set_append_right _ _ (by omega), h]; rfl
theorem roll5_put68 : (roll5 P a b c d e).set 68 v = roll5 P a b c d v := by unfold roll5; rw [List.set_append_right _ _ (by omega), h]; rfl
theorem roll5_put (i : Nat) (hi : i < 64) : (roll5 P a b c d e).set i v = roll5 (P.set i v) a b c d e := by unfold roll5; rw [List.set_append_left _ _ (by omega)]
end
/-- The last n of what was let in. -/
def lastN (n : Nat) (H : List (BitVec 8)) : List (BitVec 8) := H.drop (H.length - n)
/-- The ring holds them. -/
def Rg (R : List (BitVec 8)) (n : Nat) (H : List (BitVec 8)) : Prop := R.length = 64 ∧ ∀ i, H.length - n ≤ i → i < H.length → R[i % n]? = H[i]?
def winL (R : List (BitVec 8)) (n : Nat) (H : List (BitVec 8)) : List Value :=
  roll5 (R.map u8v) (.int .i64 (n : Int)) (.int .i64 ((min H.length n : Nat) : Int)) (.int .i64 ((H.length % n : Nat) : Int)) (.int .u64 ((pw (n - 1) : Nat) : Int)) (.int .u64 ((rsum (lastN n H) : Nat) : Int))
/-- Block g is a window of n bytes that H was let into. -/
def WinAt (w : World) (g n : Nat) (H : List (BitVec 8)) : Prop := ∃ R, Rg R n H ∧ Has w g 206 (winL R n H)
theorem WinAt.lt {w : World} {g n : Nat} {H : List (BitVec 8)} (h : WinAt w g n H) : g < w.heap.size := by obtain ⟨R, _, h⟩ := h; exact h.lt
theorem WinAt.drew {w : World} {g n : Nat} {H : List (BitVec 8)} (h : WinAt w g n H) : WinAt w.drew g n H := by obtain ⟨R, hR, h⟩ := h; exact ⟨R, hR, h.drew⟩
theorem WinAt.keep {w w' : World} {g n b : Nat} {H : List (BitVec 8)} (h : WinAt w g n H) (hb : Below b w w') (hg : g < b) : WinAt w' g n H := by obtain ⟨R, hR, h⟩ := h; exact ⟨R, hR, h.keep hb hg⟩
theorem WinAt.only {w w' : World} {g k n : Nat} {H : List (BitVec 8)} (h : WinAt w g n H) (hb : Only k w w') (hg : g ≠ k) : WinAt w' g n H := by obtain ⟨R, hR, h⟩ := h; exact ⟨R, hR, hb.has hg h⟩
theorem rg_nil (n : Nat) : Rg (List.replicate 64 0#8) n [] := ⟨by simp, fun i _ h => by simp at h⟩
def zeroL (m f : Int) : List Value := roll5 ((List.replicate 64 0#8).map u8v) (.int .i64 m) (.int .i64 0) (.int .i64 0) (.int .u64 f) (.int .u64 0)
theorem zeroL_win (n : Nat) : zeroL (n : Int) ((pw (n - 1) : Nat) : Int) = winL (List.replicate 64 0#8) n [] := by unfold winL; simp [zeroL, lastN, rsum_nil]
set_option maxRecDepth 100000 in
theorem roll_built (m f : Int) : Tryz.prog.built 206 [(1, .int .i64 m), (4, .int .u64 f)] = some (zeroL m f).toArray := by kernel_rfl
theorem wpList_builtW {P : Program} {ops : Array Oper} {Q : Exit → Act → World → Prop} {rest : List Oper} {o : Oper} {a : Act} {w : World} (hgd : o.guard = none) (t : TypeId) (parts : Array (Nat × Operand)) (ho : o.op = .build t parts) (cs : Array Value)
    (hf : P.built t (parts.map fun (i, x) => (i, a.eval x)).toList = some cs) (h : wpList P ops Q rest (a.put o.dst (.agg cs)) w) : wpList P ops Q (o :: rest) a w := by
  refine wpList_step (fun K hK => ?_)
  rw [if_pos (by simp [Region.wanted, hgd])]
  refine wp_build t parts ho (by rw [hf]; rfl) ?_
  rw [hf]
  exact hK _ _ h
set_option maxHeartbeats 1000000 in
set_option maxRecDepth 100000 in
theorem new_any (n : Int) (w : World) :
    Calls Tryz.prog 119 #[.int .i64 n] w fun e w' => e = .returned (.pointer (some ⟨w.heap.size, 0, none⟩)) ∧ WinAt w' w.heap.size (hw n) [] ∧ Below w.heap.size w w' ∧ w'.heap.size = w.heap.size + 1 := by
  obtain ⟨b1, b2⟩ := hw_bd n
  have H1 := Lib.hid (fun w1 => held_any n w1)
  generalize hw n = m at *
  have H2 := Lib.hid (fun w1 => power_any (m - 1) (by omega) w1)
  have k1 : IntKind.i64.wrap ((m : Int) - 1) = ((m - 1 : Nat) : Int) := by rw [IntWalk.i64_in _ (by omega)]; omega
  have HB := Lib.hid (roll_built (m : Int) ((pw (m - 1) : Nat) : Int))
  have HZ := Lib.hid (zeroL_win m)
  generalize pw (m - 1) = f at *
  generalize m - 1 = m1 at *
  clear b1 b2
  go_enter Tryz.func119, Tryz.ntmps119
  go_wp2_with (first | ((with_reducible refine (H1.out _).mono ?_); rintro e w1 ⟨rfl, rfl⟩) | ((with_reducible refine (H2.out _).mono ?_); rintro e w1 ⟨rfl, rfl⟩) | (refine wpList_builtW rfl 206 _ rfl (zeroL (m : Int) (f : Int)).toArray (by kernel_rfl) ?_))
  go_ret
  rw [HZ.out]
  exact ⟨rfl, ⟨_, rg_nil m, Has.made' _ _ _ _ rfl⟩, (Below.refl _ _).alloc (Nat.le_refl _) _, by simp⟩
theorem u8v_len (R : List (BitVec 8)) (h : R.length = 64) : (R.map u8v).length = 64 := by rw [List.length_map, h]
theorem wpStill_valW {P : Program} {ops : Array Oper} {w : World} {Q : Act → Prop} {o : Oper} {rest : List Oper} {a : Act} {v : Value} (hw : Region.wanted o (yielded ops a.tmps) = true) (hy : (execOp a.eval o).run P w = .ok (.value v) w)
    (h : wpStill P ops w Q rest (a.put o.dst v)) : wpStill P ops w Q (o :: rest) a := by
  show if _ then _ else _
  rw [if_pos hw]
  unfold Oper.still
  rw [hy, Oper.stillUpon_value]
  exact h
theorem build_at {P : Program} {o : Oper} {ev : Operand → Value} (t : TypeId) (parts : Array (Nat × Operand)) (ho : o.op = .build t parts) (cs : Array Value) (w : World)
    (hf : P.built t (parts.map fun (i, x) => (i, ev x)).toList = some cs) : (execOp ev o).run P w = .ok (.value (.agg cs)) w := by
  unfold execOp
  simp only [ho, Sem.run_bind, run_build w t _ cs hf, Result.andThen_ok]
  rfl
theorem zeroL_one (m f : Int) : (zeroL m f).toArray.all (·.oneCell') = true :=
  Array.all_eq_true_iff_forall_mem.2 (fun v hv => by
    have : v ∈ zeroL m f := by simpa using hv
    unfold zeroL roll5 at this
    rcases List.mem_append.1 this with h | h
    · obtain ⟨x, _, rfl⟩ := List.mem_map.1 h; rfl
    · simp at h; rcases h with rfl | rfl | rfl | rfl <;> rfl)
theorem zeroL_len (m f : Int) : (zeroL m f).length = 69 := by simp [zeroL, roll5]
theorem winL_len (R : List (BitVec 8)) (n : Nat) (H : List (BitVec 8)) (h : R.length = 64) : (winL R n H).length = 69 := by simp [winL, roll5, h]
set_option maxHeartbeats 1000000 in
set_option maxRecDepth 100000 in
theorem reset_any (w : World) (g n : Nat) (H : List (BitVec 8)) (h : WinAt w g n H) :
    Calls Tryz.prog 143 #[.pointer (some ⟨g, 0, none⟩)] w fun e w' => e = .returned (.tuple #[]) ∧ WinAt w' g n [] ∧ Only g w w' := by
  obtain ⟨R, hR, h⟩ := h
  have c64 := h.cellv (roll5_64 _ _ _ _ _ _ (u8v_len R hR.1))
  have c67 := h.cellv (roll5_67 _ _ _ _ _ _ (u8v_len R hR.1))
  have HH := Lib.hid h
  have HZ := Lib.hid (zeroL_win n)
  have HO := Lib.hid (zeroL_one (n : Int) ((pw (n - 1) : Nat) : Int))
  have HL := Lib.hid (zeroL_len (n : Int) ((pw (n - 1) : Nat) : Int))
  have HWL := Lib.hid (winL_len R n H hR.1)
  clear h hR
  generalize pw (n - 1) = f at *
  go_enter Tryz.func143, Tryz.ntmps143
  go_still_tail 11, (by kernel_rfl)
  have hzc : ((Tryz.zeroCells206.setIfInBounds 64 (Value.int IntKind.i64 (n : Int))).setIfInBounds 67 (Value.int IntKind.u64 (f : Int))) = (zeroL (n : Int) (f : Int)).toArray := by kernel_rfl
  rw [hzc]
  change wpList _ _ _ _ _ w.drew
  refine wpList_store_row rfl 206 _ _ rfl g (zeroL (n : Int) (f : Int)).toArray rfl rfl 206 _ HH.out.drew (by rw [List.size_toArray, HL.out]; kernel_rfl) (by rw [List.size_toArray, List.size_toArray, HL.out, HWL.out]) HO.out ?_
  go_wp2_with fail
  go_end0
  rw [HZ.out]
  exact ⟨rfl, ⟨_, rg_nil n, HH.out.drew.rowl _⟩, ((Only.refl g w).drew).setRow _⟩
end Go.Proofs.YtmjonlffhhehjaaGreatDoor
/- Contract: (*roll.Roll).Add: a byte is let into a window. Condition: the window is of 1 to 64 bytes. -/
namespace Go.Proofs.YtmjonlffhhehjaaGreatDoor
open Go.RowKit
theorem lastN_all (n : Nat) (H : List (BitVec 8)) (h : H.length ≤ n) : lastN n H = H := by unfold lastN; rw [Nat.sub_eq_zero_of_le h]; rfl
theorem lastN_cons (n : Nat) (H : List (BitVec 8)) (h : n ≤ H.length) (hn : 1 ≤ n) : lastN n H = at8 H (H.length - n) :: H.drop (H.length - n + 1) := drop_at8 H (H.length - n) (by omega)
theorem lastN_snoc_full (n : Nat) (H : List (BitVec 8)) (h : n ≤ H.length) (hn : 1 ≤ n) (c : BitVec 8) : lastN n (H ++ [c]) = H.drop (H.length - n + 1) ++ [c] := by
  unfold lastN
  rw [List.length_append, List.length_singleton, show H.length + 1 - n = H.length - n + 1 by omega, List.drop_append_of_le_length (by omega)]
theorem lastN_snoc_part (n : Nat) (H : List (BitVec 8)) (h : H.length < n) (c : BitVec 8) : lastN n (H ++ [c]) = H ++ [c] := lastN_all n _ (by simp; omega)
theorem sum_full (n : Nat) (H : List (BitVec 8)) (h : n ≤ H.length) (hn : 1 ≤ n) (c : BitVec 8) :
    (wo (rsum (lastN n H)) (at8 H (H.length - n)) (pw (n - 1)) * 257 + (c.toNat + 1)) % 2305843009213693951 = rsum (lastN n (H ++ [c])) := by
  rw [lastN_snoc_full n H h hn, rsum_snoc, lastN_cons n H h hn]
  have e : (H.drop (H.length - n + 1)).length = n - 1 := by rw [List.length_drop]; omega
  rw [← e, wo_rsum]
theorem sum_part (n : Nat) (H : List (BitVec 8)) (h : H.length < n) (c : BitVec 8) :
    (rsum (lastN n H) * 257 + (c.toNat + 1)) % 2305843009213693951 = rsum (lastN n (H ++ [c])) := by
  rw [lastN_snoc_part n H h, rsum_snoc, lastN_all n H (by omega)]
theorem mod_apart (n i L : Nat) (h1 : L + 1 - n ≤ i) (h2 : i < L) : i % n ≠ L % n := by
  intro h
  have h3 : (L - i) % n = 0 := Nat.sub_mod_eq_zero_of_mod_eq h.symm
  rw [Nat.mod_eq_of_lt (by omega)] at h3
  omega
theorem rg_put (R : List (BitVec 8)) (n : Nat) (H : List (BitVec 8)) (h : Rg R n H) (h1 : 1 ≤ n) (h2 : n ≤ 64) (c : BitVec 8) : Rg (R.set (H.length % n) c) n (H ++ [c]) := by
  refine ⟨by rw [List.length_set]; exact h.1, fun i hi hl => ?_⟩
  rw [List.length_append, List.length_singleton] at hi hl
  have hm := Nat.mod_lt H.length (show 0 < n by omega)
  by_cases he : i = H.length
  · subst he
    rw [List.getElem?_set_self (by rw [h.1]; omega), List.getElem?_append_right (Nat.le_refl _), Nat.sub_self]
    rfl
  · rw [List.getElem?_set_ne (fun e => mod_apart n i H.length hi (by omega) e.symm), List.getElem?_append_left (by omega)]
    exact h.2 i (by omega) (by omega)
theorem rg_old (R : List (BitVec 8)) (n : Nat) (H : List (BitVec 8)) (h : Rg R n H) (hn : n ≤ H.length) (h1 : 1 ≤ n) : R[H.length % n]? = some (at8 H (H.length - n)) := by
  have := h.2 (H.length - n) (Nat.le_refl _) (by omega)
  rw [← Nat.mod_eq_sub_mod hn] at this
  rw [this]
  simp [at8, List.getD_eq_getElem?_getD, List.getElem?_eq_getElem (show H.length - n < H.length by omega)]
theorem win_end (R : List (BitVec 8)) (n : Nat) (H : List (BitVec 8)) (c : BitVec 8) (m a : Int) (hm : m = ((min (H ++ [c]).length n : Nat) : Int)) (ha : a = (((H ++ [c]).length % n : Nat) : Int)) :
    roll5 ((R.map u8v).set (H.length % n) (u8v c)) (.int .i64 (n : Int)) (.int .i64 m) (.int .i64 a) (.int .u64 ((pw (n - 1) : Nat) : Int)) (.int .u64 ((rsum (lastN n (H ++ [c])) : Nat) : Int)) = winL (R.set (H.length % n) c) n (H ++ [c]) := by
  subst hm ha
  unfold winL
  rw [List.map_set]
theorem calls_flip {P : Program} {f : FuncId} {args : Array Value} {w : World} {v : Value} (h : Calls P f args w fun e w' => e = .returned v ∧ w = w') : Calls P f args w fun e w' => e = .returned v ∧ w' = w :=
  h.mono fun _ _ ⟨a, b⟩ => ⟨a, b.symm⟩
set_option maxHeartbeats 2000000 in
set_option maxRecDepth 100000 in
theorem addw_any (w : World) (g n : Nat) (H : List (BitVec 8)) (c : BitVec 8) (h1 : 1 ≤ n) (h2 : n ≤ 64) (h : WinAt w g n H) :
    Calls Tryz.prog 144 #[.pointer (some ⟨g, 0, none⟩), .int .u8 (B c)] w fun e w' => e = .returned (.int .u64 ((rsum (lastN n (H ++ [c])) : Nat) : Int)) ∧ WinAt w' g n (H ++ [c]) ∧ Only g w w' := by
  obtain ⟨R, hR, h⟩ := h
  have hP := u8v_len R hR.1
  have HR := Lib.hid (rg_put R n H hR h1 h2 c)
  have HO := Lib.hid (rg_old R n H hR)
  have HE := Lib.hid (win_end R n H c)
  have hm := Nat.mod_lt H.length (show 0 < n by omega)
  have hat : (H.length % n + 1) % n = (H ++ [c]).length % n := by rw [List.length_append, List.length_singleton, Nat.mod_add_mod]
  have HAT := Lib.hid hat
  have HPF := Lib.hid (fun hf => sum_full n H hf h1 c)
  have HPP := Lib.hid (fun hf => sum_part n H hf c)
  have hlen : (H ++ [c]).length = H.length + 1 := by simp
  have HLEN := Lib.hid hlen
  have hsl := rsum_lt (lastN n H)
  have hfl := pw_lt (n - 1)
  unfold winL at h
  have hPR : ∀ i : Nat, (R.map u8v)[i]? = (R[i]?).map u8v := fun i => List.getElem?_map
  clear hat hlen hR
  by_cases hf : n ≤ H.length
  · have hold := HO.out hf h1
    have hpf := HPF.out hf
    have hmin : min H.length n = n := by omega
    have HMIN : Hid (min (H ++ [c]).length n = n) := Lib.hid (by rw [HLEN.out]; omega)
    rw [hmin] at h
    have hx := (hPR (H.length % n)).trans (congrArg (Option.map u8v) hold)
    have H1 := Lib.hid (fun w1 => without_any (rsum (lastN n H)) (at8 H (H.length - n)) (pw (n - 1)) hsl hfl w1)
    have H2 := Lib.hid (fun w1 => with_any (wo (rsum (lastN n H)) (at8 H (H.length - n)) (pw (n - 1))) c (wo_lt _ _ _) w1)
    rw [hpf] at H2
    clear hPR HPP HPF HO hold hmin hpf hsl hfl
    have HM : Hid ((n : Int) = ((min (H ++ [c]).length n : Nat) : Int)) := Lib.hid (by rw [HMIN.out])
    clear HMIN HLEN
    replace HE := Lib.hid (fun a' => HE.out (n : Int) a' HM.out)
    clear HM
    generalize rsum (lastN n (H ++ [c])) = s2 at *
    generalize wo (rsum (lastN n H)) (at8 H (H.length - n)) (pw (n - 1)) = t at *
    generalize rsum (lastN n H) = s at *
    generalize at8 H (H.length - n) = x at *
    generalize pw (n - 1) = f at *
    obtain ⟨a, ha⟩ : ∃ a, a = H.length % n := ⟨_, rfl⟩
    rw [← ha] at hx hm h HAT HE HR
    clear ha
    have c65 := h.cellv (roll5_65 _ _ _ _ _ _ hP)
    have c64 := h.cellv (roll5_64 _ _ _ _ _ _ hP)
    have HH := Lib.hid h
    have HP := Lib.hid hP
    clear h hP hf
    go_enter Tryz.func144, Tryz.ntmps144
    go_wp2_with fail
    go_quiet (fail)
    have HO := Lib.hid ((Only.refl g w).drewN nq)
    replace HH := Lib.hid (HH.out.drewN nq)
    clear c65 c64
    generalize w.drewN nq = w1 at *
    have c68 := HH.out.cellv (roll5_68 _ _ _ _ _ _ HP.out)
    have c66 := HH.out.cellv (roll5_66 _ _ _ _ _ _ HP.out)
    have c67 := HH.out.cellv (roll5_67 _ _ _ _ _ _ HP.out)
    have ca := HH.out.cellv ((roll5_at _ _ _ _ _ _ HP.out a (by omega)).trans hx)
    have a0 : (0 : Int) ≤ (a : Int) := by omega
    have a1 : (a : Int) < 64 := by omega
    go_wp2_with fail
    refine wp_region_still_tail 21 (by kernel_rfl) (by kernel_rfl) ?_
    simp only [List.take_succ_cons, List.take_zero, List.drop_succ_cons, List.drop_zero]
    iterate 18 still_step
    still_call (calls_flip (H1.out _))
    iterate 2 still_step
    refine wpStill_nil ?_
    change wpList _ _ _ _ _ w1.drew
    have f68 := HH.out.drew.free 68
    replace c68 : w1.drew.cell? ⟨g, 68, none⟩ = some (.int .u64 (s : Int)) := c68
    replace c66 : w1.drew.cell? ⟨g, 66, none⟩ = some (.int .i64 (a : Int)) := c66
    replace HO := Lib.hid (HO.out.drew.setCell 68 (.int .u64 (t : Int)))
    replace HH := Lib.hid (HH.out.drew.put 68 (.int .u64 (t : Int)))
    rw [roll5_put68 _ _ _ _ _ _ _ HP.out] at HH
    clear ca c67 c66
    generalize w1.drew = w2 at *
    go_upto_region 4 with (fail)
    clear c68 f68 H1
    generalize w2.setCell ⟨g, 68, none⟩ (.int .u64 (t : Int)) = w3 at *
    have c68 := HH.out.cellv (roll5_68 _ _ _ _ _ _ HP.out)
    have f68 := HH.out.free 68
    go_upto_region 5 with ((with_reducible refine (H2.out _).mono ?_); rintro e w4 ⟨rfl, rfl⟩)
    replace HO := Lib.hid (HO.out.setCell 68 (.int .u64 (s2 : Int)))
    replace HH := Lib.hid (HH.out.put 68 (.int .u64 (s2 : Int)))
    rw [roll5_put68 _ _ _ _ _ _ _ HP.out] at HH
    clear c68 f68 H2
    generalize w3.setCell ⟨g, 68, none⟩ (.int .u64 (s2 : Int)) = w4 at *
    have c66 := HH.out.cellv (roll5_66 _ _ _ _ _ _ HP.out)
    refine wp_region_still_tail 9 (by kernel_rfl) (by kernel_rfl) ?_
    simp only [List.take_succ_cons, List.take_zero, List.drop_succ_cons, List.drop_zero]
    iterate 9 still_step
    refine wpStill_nil ?_
    change wpList _ _ _ _ _ w4.drew
    have ca := HH.out.drew.cell a
    rw [roll5_at _ _ _ _ _ _ HP.out a (by omega), hx] at ca
    have fa := HH.out.drew.free a
    replace HO := Lib.hid (HO.out.drew.setCell a (u8v c))
    replace HH := Lib.hid (HH.out.drew.put a (u8v c))
    rw [roll5_put _ _ _ _ _ _ _ HP.out a (by omega)] at HH
    have hP2 : ((R.map u8v).set a (u8v c)).length = 64 := by rw [List.length_set]; exact HP.out
    replace HP := Lib.hid hP2
    clear c66 hP2
    generalize w4.drew = w5 at *
    go_upto_region 6 with (fail)
    clear ca fa
    change Code.wp _ _ _ _ (w5.setCell ⟨g, a, none⟩ (u8v c))
    generalize w5.setCell ⟨g, a, none⟩ (u8v c) = w6 at *
    have c66 := HH.out.cellv (roll5_66 _ _ _ _ _ _ HP.out)
    have c64 := HH.out.cellv (roll5_64 _ _ _ _ _ _ HP.out)
    have k1 : IntKind.i64.wrap ((a : Int) + 1) = (a : Int) + 1 := IntWalk.i64_in _ (by omega)
    have k2 : ((n : Int) == 0) = false := by rw [beq_eq_false_iff_ne]; omega
    have k3 : ((a : Int) + 1).tmod (n : Int) = (((a + 1) % n : Nat) : Int) := rfl
    have k4 : ¬ n = 0 := by omega
    rw [HAT.out] at k3
    generalize (H ++ [c]).length % n = a2 at *
    refine wp_region_still_tail 13 (by kernel_rfl) (by kernel_rfl) ?_
    simp only [List.take_succ_cons, List.take_zero, List.drop_succ_cons, List.drop_zero]
    iterate 13 still_step
    refine wpStill_nil ?_
    change wpList _ _ _ _ _ w6.drew
    have f66 := HH.out.drew.free 66
    replace c66 : w6.drew.cell? ⟨g, 66, none⟩ = some (.int .i64 (a : Int)) := c66
    replace HO := Lib.hid (HO.out.drew.setCell 66 (.int .i64 (a2 : Int)))
    replace HH := Lib.hid (HH.out.drew.put 66 (.int .i64 (a2 : Int)))
    rw [roll5_put66 _ _ _ _ _ _ _ HP.out] at HH
    have H7 : Hid (∀ w7, w7 = w6.drew.setCell ⟨g, 66, none⟩ (.int .i64 (a2 : Int)) → w7.cell? ⟨g, 68, none⟩ = some (.int .u64 (s2 : Int))) := Lib.hid (by rintro _ rfl; exact HH.out.cellv (roll5_68 _ _ _ _ _ _ HP.out))
    clear c64 k1 k2 k3 k4
    generalize w6.drew = w7 at *
    go_upto_region 7 with (fail)
    have c68 := H7.out _ rfl
    clear c66 f66 H7
    generalize w7.setCell ⟨g, 66, none⟩ (.int .i64 (a2 : Int)) = w8 at *
    go_wp2_with fail
    go_ret
    refine ⟨rfl, ⟨_, HR.out, ?_⟩, HO.out⟩
    have := HH.out
    rw [HE.out (a2 : Int) rfl] at this
    exact this
  · have hpp := HPP.out (by omega)
    have hmin : min H.length n = H.length := by omega
    have HM : Hid (((H.length + 1 : Nat) : Int) = ((min (H ++ [c]).length n : Nat) : Int)) := Lib.hid (by rw [HLEN.out]; omega)
    rw [hmin] at h
    have H2 := Lib.hid (fun w1 => with_any (rsum (lastN n H)) c hsl w1)
    rw [hpp] at H2
    obtain ⟨y, hy⟩ : ∃ y, (R.map u8v)[H.length % n]? = some y := ⟨_, List.getElem?_eq_getElem (by omega)⟩
    clear hPR HPP HPF HO hmin hpp hsl hfl HLEN
    replace HE := Lib.hid (fun a' => HE.out ((H.length + 1 : Nat) : Int) a' HM.out)
    clear HM
    generalize rsum (lastN n (H ++ [c])) = s2 at *
    generalize rsum (lastN n H) = t at *
    generalize pw (n - 1) = f at *
    obtain ⟨a, ha⟩ : ∃ a, a = H.length % n := ⟨_, rfl⟩
    rw [← ha] at hy hm h HAT HE HR
    clear ha
    have HY := Lib.hid hy
    have c65 := h.cellv (roll5_65 _ _ _ _ _ _ hP)
    have c64 := h.cellv (roll5_64 _ _ _ _ _ _ hP)
    have HH := Lib.hid h
    have HP := Lib.hid hP
    obtain ⟨L, hL⟩ : ∃ L, L = H.length := ⟨_, rfl⟩
    rw [← hL] at c65 hf HH HE
    have e0 : ((L : Int) == (n : Int)) = false := by rw [beq_eq_false_iff_ne]; omega
    have e1 : ¬ L = n := by omega
    have e2 : IntKind.i64.wrap ((L : Int) + 1) = ((L + 1 : Nat) : Int) := IntWalk.i64_in _ (by omega)
    clear h hP hf hy hL
    go_enter Tryz.func144, Tryz.ntmps144
    go_wp2_with fail
    go_quiet (fail)
    have HO := Lib.hid ((Only.refl g w).drewN nq)
    replace HH := Lib.hid (HH.out.drewN nq)
    clear c65 c64
    generalize w.drewN nq = w1 at *
    have c65 := HH.out.cellv (roll5_65 _ _ _ _ _ _ HP.out)
    have f65 := HH.out.free 65
    replace HO := Lib.hid (HO.out.setCell 65 (.int .i64 ((L + 1 : Nat) : Int)))
    replace HH := Lib.hid (HH.out.put 65 (.int .i64 ((L + 1 : Nat) : Int)))
    rw [roll5_put65 _ _ _ _ _ _ _ HP.out] at HH
    generalize L + 1 = L1 at *
    have a0 : (0 : Int) ≤ (a : Int) := by omega
    have a1 : (a : Int) < 64 := by omega
    go_upto_region 4 with (fail)
    clear c65 f65 e0 e1 e2
    generalize w1.setCell ⟨g, 65, none⟩ (.int .i64 (L1 : Int)) = w3 at *
    have c68 := HH.out.cellv (roll5_68 _ _ _ _ _ _ HP.out)
    have f68 := HH.out.free 68
    go_upto_region 5 with ((with_reducible refine (H2.out _).mono ?_); rintro e w4 ⟨rfl, rfl⟩)
    replace HO := Lib.hid (HO.out.setCell 68 (.int .u64 (s2 : Int)))
    replace HH := Lib.hid (HH.out.put 68 (.int .u64 (s2 : Int)))
    rw [roll5_put68 _ _ _ _ _ _ _ HP.out] at HH
    clear c68 f68 H2
    generalize w3.setCell ⟨g, 68, none⟩ (.int .u64 (s2 : Int)) = w4 at *
    have c66 := HH.out.cellv (roll5_66 _ _ _ _ _ _ HP.out)
    refine wp_region_still_tail 9 (by kernel_rfl) (by kernel_rfl) ?_
    simp only [List.take_succ_cons, List.take_zero, List.drop_succ_cons, List.drop_zero]
    iterate 9 still_step
    refine wpStill_nil ?_
    change wpList _ _ _ _ _ w4.drew
    have ca := HH.out.drew.cell a
    rw [roll5_at _ _ _ _ _ _ HP.out a (by omega), HY.out] at ca
    have fa := HH.out.drew.free a
    replace HO := Lib.hid (HO.out.drew.setCell a (u8v c))
    replace HH := Lib.hid (HH.out.drew.put a (u8v c))
    rw [roll5_put _ _ _ _ _ _ _ HP.out a (by omega)] at HH
    have hP2 : ((R.map u8v).set a (u8v c)).length = 64 := by rw [List.length_set]; exact HP.out
    replace HP := Lib.hid hP2
    clear c66 hP2
    generalize w4.drew = w5 at *
    go_upto_region 6 with (fail)
    clear ca fa
    change Code.wp _ _ _ _ (w5.setCell ⟨g, a, none⟩ (u8v c))
    generalize w5.setCell ⟨g, a, none⟩ (u8v c) = w6 at *
    have c66 := HH.out.cellv (roll5_66 _ _ _ _ _ _ HP.out)
    have c64 := HH.out.cellv (roll5_64 _ _ _ _ _ _ HP.out)
    have k1 : IntKind.i64.wrap ((a : Int) + 1) = (a : Int) + 1 := IntWalk.i64_in _ (by omega)
    have k2 : ((n : Int) == 0) = false := by rw [beq_eq_false_iff_ne]; omega
    have k3 : ((a : Int) + 1).tmod (n : Int) = (((a + 1) % n : Nat) : Int) := rfl
    have k4 : ¬ n = 0 := by omega
    rw [HAT.out] at k3
    generalize (H ++ [c]).length % n = a2 at *
    refine wp_region_still_tail 13 (by kernel_rfl) (by kernel_rfl) ?_
    simp only [List.take_succ_cons, List.take_zero, List.drop_succ_cons, List.drop_zero]
    iterate 13 still_step
    refine wpStill_nil ?_
    change wpList _ _ _ _ _ w6.drew
    have f66 := HH.out.drew.free 66
    replace c66 : w6.drew.cell? ⟨g, 66, none⟩ = some (.int .i64 (a : Int)) := c66
    replace HO := Lib.hid (HO.out.drew.setCell 66 (.int .i64 (a2 : Int)))
    replace HH := Lib.hid (HH.out.drew.put 66 (.int .i64 (a2 : Int)))
    rw [roll5_put66 _ _ _ _ _ _ _ HP.out] at HH
    have H7 : Hid (∀ w7, w7 = w6.drew.setCell ⟨g, 66, none⟩ (.int .i64 (a2 : Int)) → w7.cell? ⟨g, 68, none⟩ = some (.int .u64 (s2 : Int))) := Lib.hid (by rintro _ rfl; exact HH.out.cellv (roll5_68 _ _ _ _ _ _ HP.out))
    clear c64 k1 k2 k3 k4
    generalize w6.drew = w7 at *
    go_upto_region 7 with (fail)
    have c68 := H7.out _ rfl
    clear c66 f66 H7
    generalize w7.setCell ⟨g, 66, none⟩ (.int .i64 (a2 : Int)) = w8 at *
    go_wp2_with fail
    go_ret
    refine ⟨rfl, ⟨_, HR.out, ?_⟩, HO.out⟩
    have := HH.out
    rw [HE.out (a2 : Int) rfl] at this
    exact this
end Go.Proofs.YtmjonlffhhehjaaGreatDoor
/- Plain laws: where a text is cut: the next end, all ends, the pieces. No condition but that a rule may be. -/
namespace Go.Proofs.YtmjonlffhhehjaaGreatDoor
/-- A rule, in whole numbers. -/
structure Rl where
  mn : Nat
  mx : Nat
  wd : Nat
  mask : Nat
  want : Nat
structure Rl.Ok (r : Rl) : Prop where
  w1 : 1 ≤ r.wd
  w2 : r.wd ≤ 64
  w3 : r.wd ≤ r.mn
  w4 : r.mn ≤ r.mx
  w5 : r.mx ≤ 65536
  w6 : r.mask < 18446744073709551616
  w7 : r.want < 18446744073709551616
def hit (r : Rl) (b : List (BitVec 8)) (n : Nat) : Bool := (rsum (lastN r.wd (b.take n)) &&& r.mask) == r.want
def scan (p : Nat → Bool) (top : Nat) : Nat → Nat → Nat
  | 0, _ => top
  | k + 1, n => if p n then n else scan p top k (n + 1)
def nx (r : Rl) (b : List (BitVec 8)) : Nat := scan (hit r b) (min r.mx b.length) (min r.mx b.length + 1 - r.mn) r.mn
theorem scan_hit (p : Nat → Bool) (top n : Nat) (h : n ≤ top) (hp : p n = true) : scan p top (top + 1 - n) n = n := by
  rw [show top + 1 - n = top - n + 1 by omega, scan, if_pos hp]
theorem scan_miss (p : Nat → Bool) (top n : Nat) (h : n ≤ top) (hp : p n = false) : scan p top (top + 1 - n) n = scan p top (top + 1 - (n + 1)) (n + 1) := by
  rw [show top + 1 - n = top + 1 - (n + 1) + 1 by omega, scan, if_neg (by rw [hp]; simp)]
theorem scan_end (p : Nat → Bool) (top n : Nat) (h : top < n) : scan p top (top + 1 - n) n = top := by
  rw [show top + 1 - n = 0 by omega, scan]
theorem scan_spec (p : Nat → Bool) (top : Nat) : ∀ k n, k = top + 1 - n →
    (n ≤ scan p top k n ∧ scan p top k n ≤ top ∧ p (scan p top k n) = true ∧ ∀ i, n ≤ i → i < scan p top k n → p i = false) ∨ (scan p top k n = top ∧ ∀ i, n ≤ i → i ≤ top → p i = false)
  | 0, n, h => .inr ⟨rfl, fun i h1 h2 => by omega⟩
  | k + 1, n, h => by
    rw [scan]
    by_cases hp : p n = true
    · rw [if_pos hp]
      exact .inl ⟨Nat.le_refl _, by omega, hp, fun i h1 h2 => by omega⟩
    · rw [if_neg hp]
      have hp' : p n = false := by simpa using hp
      rcases scan_spec p top k (n + 1) (by omega) with ⟨h1, h2, h3, h4⟩ | ⟨h1, h2⟩
      · refine .inl ⟨by omega, h2, h3, fun i hi hj => ?_⟩
        by_cases he : i = n
        · rw [he]; exact hp'
        · exact h4 i (by omega) hj
      · refine .inr ⟨h1, fun i hi hj => ?_⟩
        by_cases he : i = n
        · rw [he]; exact hp'
        · exact h2 i (by omega) hj
theorem nx_spec (r : Rl) (b : List (BitVec 8)) : (r.mn ≤ nx r b ∧ nx r b ≤ min r.mx b.length ∧ hit r b (nx r b) = true ∧ ∀ i, r.mn ≤ i → i < nx r b → hit r b i = false) ∨
    (nx r b = min r.mx b.length ∧ ∀ i, r.mn ≤ i → i ≤ min r.mx b.length → hit r b i = false) := scan_spec (hit r b) (min r.mx b.length) _ r.mn rfl
theorem nx_le (r : Rl) (b : List (BitVec 8)) : nx r b ≤ b.length ∧ nx r b ≤ r.mx := by
  rcases nx_spec r b with ⟨h1, h2, _⟩ | ⟨h1, _⟩ <;> omega
theorem nx_pos {r : Rl} (h : r.Ok) {b : List (BitVec 8)} (hb : b.length ≠ 0) : 1 ≤ nx r b := by
  have := h.w1; have := h.w3; have := h.w4
  rcases nx_spec r b with ⟨h1, h2, _⟩ | ⟨h1, _⟩ <;> omega
theorem nx_min {r : Rl} (h : r.Ok) {b : List (BitVec 8)} (hb : nx r b < b.length) : r.mn ≤ nx r b := by
  have := h.w1; have := h.w3; have := h.w4
  rcases nx_spec r b with ⟨h1, h2, _⟩ | ⟨h1, _⟩ <;> omega
theorem hit_more (r : Rl) (b c : List (BitVec 8)) (n : Nat) (h : n ≤ b.length) : hit r (b ++ c) n = hit r b n := by
  unfold hit; rw [List.take_append_of_le_length h]
theorem nx_local {r : Rl} (h : r.Ok) (b c : List (BitVec 8)) : nx r b = nx r (b ++ c) ∨ (nx r b = b.length ∧ nx r b ≤ nx r (b ++ c)) := by
  have hl : (b ++ c).length = b.length + c.length := List.length_append
  have hm : ∀ n, n ≤ b.length → hit r (b ++ c) n = hit r b n := hit_more r b c
  have := h.w4
  rcases nx_spec r b with ⟨h1, h2, h3, h4⟩ | ⟨h1, h2⟩ <;> rcases nx_spec r (b ++ c) with ⟨k1, k2, k3, k4⟩ | ⟨k1, k2⟩
  · left
    rcases Nat.lt_trichotomy (nx r b) (nx r (b ++ c)) with hlt | he | hgt
    · have := k4 _ h1 hlt; rw [hm _ (by omega), h3] at this; simp at this
    · exact he
    · have := h4 _ k1 hgt; rw [← hm _ (by omega), k3] at this; simp at this
  · have := k2 _ h1 (by omega); rw [hm _ (by omega), h3] at this; simp at this
  · rcases Nat.lt_or_ge (nx r b) (nx r (b ++ c)) with hlt | hge
    · right; exact ⟨by omega, by omega⟩
    · have := h2 _ k1 (by omega); rw [← hm _ (by omega), k3] at this; simp at this
  · rcases Nat.lt_or_ge r.mx b.length with hlt | hge
    · left; omega
    · right; exact ⟨by omega, by omega⟩
/-- Where pieces end, o bytes ahead. -/
def endsF (r : Rl) : Nat → Nat → List (BitVec 8) → List Nat
  | 0, _, _ => []
  | f + 1, o, b => if b.length = 0 then [] else (o + nx r b) :: endsF r f (o + nx r b) (b.drop (nx r b))
def endsL (r : Rl) (o : Nat) (b : List (BitVec 8)) : List Nat := endsF r b.length o b
theorem endsF_fuel {r : Rl} (h : r.Ok) : ∀ (f g o : Nat) (b : List (BitVec 8)), b.length ≤ f → b.length ≤ g → endsF r f o b = endsF r g o b
  | 0, 0, _, _, _, _ => rfl
  | 0, g + 1, o, b, h1, _ => by
    have h0 : b.length = 0 := by omega
    simp only [endsF]; rw [if_pos h0]
  | f + 1, 0, o, b, _, h2 => by
    have h0 : b.length = 0 := by omega
    simp only [endsF]; rw [if_pos h0]
  | f + 1, g + 1, o, b, h1, h2 => by
    simp only [endsF]
    by_cases h0 : b.length = 0
    · rw [if_pos h0, if_pos h0]
    · rw [if_neg h0, if_neg h0]
      have := nx_pos h h0
      rw [endsF_fuel h f g _ _ (by rw [List.length_drop]; omega) (by rw [List.length_drop]; omega)]
theorem endsL_nil (r : Rl) (o : Nat) (b : List (BitVec 8)) (h : b.length = 0) : endsL r o b = [] := by
  unfold endsL; rw [h]; rfl
theorem endsL_cons {r : Rl} (h : r.Ok) (o : Nat) (b : List (BitVec 8)) (hb : b.length ≠ 0) : endsL r o b = (o + nx r b) :: endsL r (o + nx r b) (b.drop (nx r b)) := by
  have hp := nx_pos h hb
  unfold endsL
  rw [show b.length = b.length - 1 + 1 by omega, endsF, if_neg hb, endsF_fuel h (b.length - 1) _ _ _ (by rw [List.length_drop]; omega) (Nat.le_refl _)]
theorem endsL_shift {r : Rl} (h : r.Ok) (t : Nat) : ∀ (n o : Nat) (b : List (BitVec 8)), b.length ≤ n → endsL r (o + t) b = (endsL r o b).map (· + t)
  | 0, o, b, hn => by rw [endsL_nil r _ b (by omega), endsL_nil r _ b (by omega)]; rfl
  | n + 1, o, b, hn => by
    by_cases h0 : b.length = 0
    · rw [endsL_nil r _ b h0, endsL_nil r _ b h0]; rfl
    · have := nx_pos h h0
      rw [endsL_cons h _ b h0, endsL_cons h _ b h0, List.map_cons, ← endsL_shift h t n _ _ (by rw [List.length_drop]; omega)]
      have e : o + t + nx r b = o + nx r b + t := by omega
      rw [e]
/-- From an end on. -/
theorem endsL_drop {r : Rl} (h : r.Ok) : ∀ (n o : Nat) (b : List (BitVec 8)), b.length ≤ n → ∀ i (hi : i < (endsL r o b).length),
    (endsL r o b).drop (i + 1) = endsL r (endsL r o b)[i] (b.drop ((endsL r o b)[i] - o)) ∧ o < (endsL r o b)[i] ∧ (endsL r o b)[i] ≤ o + b.length
  | 0, o, b, hn, i, hi => by rw [endsL_nil r o b (by omega)] at hi; simp at hi
  | n + 1, o, b, hn, i, hi => by
    by_cases h0 : b.length = 0
    · rw [endsL_nil r o b h0] at hi; simp at hi
    · have hp := nx_pos h h0
      have hq := (nx_le r b).1
      have e := endsL_cons h o b h0
      rcases i with _ | i
      · have e0 : (endsL r o b)[0] = o + nx r b := by simp [e]
        rw [e0, e]
        refine ⟨?_, by omega, by omega⟩
        rw [List.drop_succ_cons, List.drop_zero, Nat.add_sub_cancel_left]
      · have hi' : i < (endsL r (o + nx r b) (b.drop (nx r b))).length := by rw [e] at hi; simpa using hi
        obtain ⟨k1, k2, k3⟩ := endsL_drop h n (o + nx r b) (b.drop (nx r b)) (by rw [List.length_drop]; omega) i hi'
        have e1 : (endsL r o b)[i + 1] = (endsL r (o + nx r b) (b.drop (nx r b)))[i] := by simp [e]
        rw [List.length_drop] at k3
        rw [e1]
        refine ⟨?_, by omega, by omega⟩
        rw [show (endsL r o b).drop (i + 1 + 1) = (endsL r (o + nx r b) (b.drop (nx r b))).drop (i + 1) by rw [e, List.drop_succ_cons], k1, List.drop_drop]
        congr 2
        omega
/-- The end ahead of the i-th. -/
def before (L : List Nat) (i : Nat) : Nat := if i = 0 then 0 else L.getD (i - 1) 0
theorem before_zero (L : List Nat) : before L 0 = 0 := rfl
theorem before_succ (L : List Nat) (i : Nat) (h : i < L.length) : before L (i + 1) = L[i] := by
  unfold before; rw [if_neg (by omega), Nat.add_sub_cancel, List.getD_eq_getElem?_getD, List.getElem?_eq_getElem h]; rfl
theorem endsL_from {r : Rl} (h : r.Ok) (b : List (BitVec 8)) (i : Nat) (hi : i ≤ (endsL r 0 b).length) :
    (endsL r 0 b).drop i = endsL r (before (endsL r 0 b) i) (b.drop (before (endsL r 0 b) i)) ∧ before (endsL r 0 b) i ≤ b.length := by
  rcases i with _ | i
  · exact ⟨by rw [before_zero, List.drop_zero, List.drop_zero], by rw [before_zero]; omega⟩
  · obtain ⟨k1, k2, k3⟩ := endsL_drop h _ 0 b (Nat.le_refl _) i hi
    rw [before_succ _ i hi]
    exact ⟨by rw [k1, Nat.sub_zero], by omega⟩
/-- An end and the one ahead of it. -/
theorem endsL_step {r : Rl} (h : r.Ok) (b : List (BitVec 8)) (i : Nat) (hi : i < (endsL r 0 b).length) :
    (endsL r 0 b)[i] = before (endsL r 0 b) i + nx r (b.drop (before (endsL r 0 b) i)) ∧ before (endsL r 0 b) i < b.length := by
  obtain ⟨k1, k2⟩ := endsL_from h b i (by omega)
  have hne : (b.drop (before (endsL r 0 b) i)).length ≠ 0 := by
    intro h0
    rw [endsL_nil r _ _ h0] at k1
    have := congrArg List.length k1
    rw [List.length_drop] at this
    simp at this
    omega
  rw [endsL_cons h _ _ hne, List.drop_eq_getElem_cons hi] at k1
  refine ⟨(List.cons.inj k1).1, ?_⟩
  rw [List.length_drop] at hne
  omega
theorem endsL_lt {r : Rl} (h : r.Ok) (b : List (BitVec 8)) (i : Nat) (hi : i < (endsL r 0 b).length) :
    before (endsL r 0 b) i < (endsL r 0 b)[i] ∧ (endsL r 0 b)[i] ≤ b.length ∧ (endsL r 0 b)[i] ≤ before (endsL r 0 b) i + r.mx ∧ (i + 1 < (endsL r 0 b).length → before (endsL r 0 b) i + r.mn ≤ (endsL r 0 b)[i]) := by
  obtain ⟨k1, k2⟩ := endsL_step h b i hi
  have hne : (b.drop (before (endsL r 0 b) i)).length ≠ 0 := by rw [List.length_drop]; omega
  have h1 := nx_pos h hne
  have h2 := nx_le r (b.drop (before (endsL r 0 b) i))
  have h3 := nx_min h (b := b.drop (before (endsL r 0 b) i))
  rw [List.length_drop] at h2 h3
  refine ⟨by omega, by omega, by omega, fun hl => ?_⟩
  obtain ⟨j1, j2⟩ := endsL_step h b (i + 1) hl
  rw [before_succ _ i hi] at j2
  have := h3 (by omega)
  omega
theorem endsL_empty {r : Rl} (h : r.Ok) (b : List (BitVec 8)) : ((endsL r 0 b).length = 0) ↔ (b.length = 0) := by
  constructor
  · intro h0
    by_cases hb : b.length = 0
    · exact hb
    · rw [endsL_cons h 0 b hb] at h0; simp at h0
  · intro h0; rw [endsL_nil r 0 b h0]; rfl
theorem endsL_last {r : Rl} (h : r.Ok) (b : List (BitVec 8)) : before (endsL r 0 b) (endsL r 0 b).length = b.length := by
  obtain ⟨k1, k2⟩ := endsL_from h b (endsL r 0 b).length (Nat.le_refl _)
  rw [List.drop_length] at k1
  by_cases h0 : (b.drop (before (endsL r 0 b) (endsL r 0 b).length)).length = 0
  · rw [List.length_drop] at h0; omega
  · rw [endsL_cons h _ _ h0] at k1; simp at k1
theorem endsL_most {r : Rl} (h : r.Ok) (b : List (BitVec 8)) : ∀ i, i ≤ (endsL r 0 b).length → before (endsL r 0 b) i ≤ i * r.mx
  | 0, _ => by rw [before_zero]; omega
  | i + 1, hi => by
    have h1 := endsL_most h b i (by omega)
    obtain ⟨_, _, h2, _⟩ := endsL_lt h b i hi
    rw [before_succ _ i hi, Nat.add_mul]
    omega
theorem endsL_least {r : Rl} (h : r.Ok) (b : List (BitVec 8)) : ∀ i, i < (endsL r 0 b).length → i * r.mn ≤ before (endsL r 0 b) i
  | 0, _ => by omega
  | i + 1, hi => by
    have h1 := endsL_least h b i (by omega)
    obtain ⟨_, _, _, h2⟩ := endsL_lt h b i (by omega)
    have := h2 hi
    rw [before_succ _ i (by omega), Nat.add_mul]
    omega
/-- The i-th piece. -/
def piece (b : List (BitVec 8)) (L : List Nat) (i : Nat) : List (BitVec 8) := (b.take (L.getD i 0)).drop (before L i)
theorem getD_at (L : List Nat) (i : Nat) (h : i < L.length) : L.getD i 0 = L[i] := by
  rw [List.getD_eq_getElem?_getD, List.getElem?_eq_getElem h]; rfl
theorem lastN_drop (d k : Nat) (l : List (BitVec 8)) (h : k + d ≤ l.length) : lastN d (l.drop k) = lastN d l := by
  unfold lastN; rw [List.length_drop, List.drop_drop]; congr 1; omega
theorem hit_take (r : Rl) (b : List (BitVec 8)) (n x : Nat) (h : n ≤ x) : hit r (b.take x) n = hit r b n := by
  unfold hit; rw [List.take_take, Nat.min_eq_left h]
theorem ends_tail {r : Rl} (h : r.Ok) (a c : List (BitVec 8)) (i : Nat) (hi : i < (endsL r 0 (a ++ c)).length) (ha : a.length ≤ (endsL r 0 (a ++ c))[i]) :
    (endsL r 0 (a ++ c)).drop (i + 1) = (endsL r ((endsL r 0 (a ++ c))[i] - a.length) (c.drop ((endsL r 0 (a ++ c))[i] - a.length))).map (· + a.length) := by
  obtain ⟨k1, k2, k3⟩ := endsL_drop h _ 0 (a ++ c) (Nat.le_refl _) i hi
  rw [k1, ← endsL_shift h a.length _ _ _ (Nat.le_refl _), Nat.sub_zero, List.drop_append, List.drop_eq_nil_of_le ha, List.nil_append]
  congr 1
  omega
/-- Two texts that end alike, from an end of both on. -/
theorem ends_again {r : Rl} (h : r.Ok) (a b c : List (BitVec 8)) (i k : Nat) (hi : i < (endsL r 0 (a ++ c)).length) (hk : k < (endsL r 0 (b ++ c)).length)
    (h1 : a.length ≤ (endsL r 0 (a ++ c))[i]) (h2 : b.length ≤ (endsL r 0 (b ++ c))[k]) (h3 : (endsL r 0 (a ++ c))[i] - a.length = (endsL r 0 (b ++ c))[k] - b.length) :
    (endsL r 0 (a ++ c)).length - i = (endsL r 0 (b ++ c)).length - k ∧
    ∀ n, i + n < (endsL r 0 (a ++ c)).length → ((endsL r 0 (a ++ c)).getD (i + n) 0 : Int) - a.length = ((endsL r 0 (b ++ c)).getD (k + n) 0 : Int) - b.length := by
  have t1 := ends_tail h a c i hi h1
  have t2 := ends_tail h b c k hk h2
  rw [h3] at t1
  generalize endsL r 0 (a ++ c) = P at *
  generalize endsL r 0 (b ++ c) = Q at *
  generalize hE : endsL r (Q[k] - b.length) (c.drop (Q[k] - b.length)) = E at *
  have l1 := congrArg List.length t1
  have l2 := congrArg List.length t2
  rw [List.length_drop, List.length_map] at l1 l2
  refine ⟨by omega, fun n hn => ?_⟩
  rcases n with _ | n
  · rw [Nat.add_zero, Nat.add_zero, getD_at P i hi, getD_at Q k hk]; omega
  · have g1 : P.getD (i + (n + 1)) 0 = E.getD n 0 + a.length := by
      have := congrArg (fun l => l.getD n 0) t1
      simp only [List.getD_eq_getElem?_getD, List.getElem?_drop, List.getElem?_map] at this ⊢
      rw [show i + (n + 1) = i + 1 + n by omega, this, List.getElem?_eq_getElem (by omega)]; rfl
    have g2 : Q.getD (k + (n + 1)) 0 = E.getD n 0 + b.length := by
      have := congrArg (fun l => l.getD n 0) t2
      simp only [List.getD_eq_getElem?_getD, List.getElem?_drop, List.getElem?_map] at this ⊢
      rw [show k + (n + 1) = k + 1 + n by omega, this, List.getElem?_eq_getElem (by omega)]; rfl
    rw [g1, g2]; omega
end Go.Proofs.YtmjonlffhhehjaaGreatDoor
/- Contracts: cut.Good, Plain, the document's own GoodRule and Plain, the law's own. No condition. -/
namespace Go.Proofs.YtmjonlffhhehjaaGreatDoor
open Go.RowKit
def ruleL (m x d k t : Int) : List Value := [.int .i64 m, .int .i64 x, .int .i64 d, .int .u64 k, .int .u64 t]
def ruleV (m x d k t : Int) : Value := .agg (ruleL m x d k t).toArray
def okI (m x d : Int) : Bool := decide (1 ≤ d ∧ d ≤ 64 ∧ d ≤ m ∧ m ≤ x ∧ x ≤ 65536)
def Rl.val (r : Rl) : Value := ruleV r.mn r.mx r.wd r.mask r.want
set_option maxHeartbeats 1000000 in
theorem cgood_any (m x d k t : Int) (w : World) :
    Calls Tryz.prog 118 #[ruleV m x d k t] w fun e w' => e = .returned (.bool (okI m x d)) ∧ Below w.heap.size w w' := by
  have HOK : Hid (okI m x d = decide (1 ≤ d ∧ d ≤ 64 ∧ d ≤ m ∧ m ≤ x ∧ x ≤ 65536)) := Lib.hid rfl
  generalize okI m x d = ok at *
  unfold ruleV ruleL
  go_enter Tryz.func118, Tryz.ntmps118
  go_wp2_with fail
  all_goals
    go_ret
    refine ⟨congrArg (fun b => Ending.returned (.bool b)) ?_, (Below.refl _ _).alloc (Nat.le_refl _) _⟩
    rw [HOK.out, Bool.eq_iff_iff]
    simp
    try omega
set_option maxHeartbeats 1000000 in
theorem rgood_any (m x d k t : Int) (w : World) :
    Calls Tryz.prog 100 #[ruleV m x d k t] w fun e w' => e = .returned (.bool (okI m x d)) ∧ Below w.heap.size w w' := by
  have HOK : Hid (okI m x d = decide (1 ≤ d ∧ d ≤ 64 ∧ d ≤ m ∧ m ≤ x ∧ x ≤ 65536)) := Lib.hid rfl
  generalize okI m x d = ok at *
  unfold ruleV ruleL
  go_enter Tryz.func100, Tryz.ntmps100
  go_wp2_with fail
  all_goals
    go_ret
    refine ⟨congrArg (fun b => Ending.returned (.bool b)) ?_, (Below.refl _ _).alloc (Nat.le_refl _) _⟩
    rw [HOK.out, Bool.eq_iff_iff]
    simp
    try omega
set_option maxHeartbeats 1000000 in
theorem plain_any (w : World) :
    Calls Tryz.prog 44 #[] w fun e w' => e = .returned (ruleV 16 128 8 31 7) ∧ Below w.heap.size w w' := by
  unfold ruleV ruleL
  go_enter Tryz.func44, Tryz.ntmps44
  go_wp2_with fail
  go_returns
  exact ⟨rfl, (Below.refl _ _).alloc (Nat.le_refl _) _⟩
set_option maxHeartbeats 1000000 in
theorem rplain_any (w : World) :
    Calls Tryz.prog 58 #[] w fun e w' => e = .returned (ruleV 16 128 8 31 7) ∧ Below w.heap.size w w' := by
  unfold ruleV ruleL
  go_enter Tryz.func58, Tryz.ntmps58
  go_wp2_with fail
  go_returns
  exact ⟨rfl, (Below.refl _ _).alloc (Nat.le_refl _) _⟩
end Go.Proofs.YtmjonlffhhehjaaGreatDoor
/- Contract: cut.first: where the first piece ends, by a lent window. Conditions: the rule may be; the text lies below the window. -/
namespace Go.Proofs.YtmjonlffhhehjaaGreatDoor
open Go.RowKit
/-- But for block g, and new blocks, the world is as it was. -/
structure Save (g : Nat) (w w' : World) : Prop where
  os : w'.os = w.os
  tape : w'.tape = w.tape
  output : w'.output = w.output
  size : w.heap.size ≤ w'.heap.size
  block : ∀ k, k < w.heap.size → k ≠ g → w'.heap[k]? = w.heap[k]?
namespace Save
variable {g : Nat} {a b c : World}
theorem refl (g : Nat) (w : World) : Save g w w := ⟨rfl, rfl, rfl, Nat.le_refl _, fun _ _ _ => rfl⟩
theorem trans (h : Save g a b) (k : Save g b c) : Save g a c := ⟨k.os.trans h.os, k.tape.trans h.tape, k.output.trans h.output, Nat.le_trans h.size k.size, fun i hi hg => (k.block i (Nat.lt_of_lt_of_le hi h.size) hg).trans (h.block i hi hg)⟩
theorem of_only (h : Only g a b) : Save g a b := ⟨h.os, h.tape, h.output, Nat.le_of_eq h.size.symm, fun k _ hk => h.block k hk⟩
theorem of_below (h : Below a.heap.size a b) : Save g a b := ⟨h.os, h.tape, h.output, h.size, fun k hk _ => h.block k hk⟩
theorem below {n : Nat} (h : Save g a b) (hn : n ≤ g) (ha : n ≤ a.heap.size) : Below n a b := ⟨h.os, h.tape, h.output, h.size, fun k hk => h.block k (by omega) (by omega)⟩
theorem has (h : Save g a b) {k : Nat} {t : TypeId} {l : List Value} (hk : k ≠ g) (hh : Has a k t l) : Has b k t l := (h.block k hh.lt hk).trans hh
theorem drew (h : Save g a b) : Save g a b.drew := ⟨h.os, h.tape, h.output, h.size, h.block⟩
theorem drewN (h : Save g a b) (n : Nat) : Save g a (b.drewN n) := ⟨h.os, h.tape, h.output, h.size, h.block⟩
end Save
theorem cut_mid (a : Option Addr) (n cap f t : Nat) (h1 : f ≤ t) (h2 : t ≤ cap) (w : World) :
    (Instr.slice 40 (.slice a n cap) (some (.int .i64 (f : Int))) (some (.int .i64 (t : Int))) none).run Tryz.prog w = .ok (.slice (cutQ a cap f) (t - f) (cap - f)) w := by
  obtain ⟨i0, hi, _, hz1, _⟩ := info_parts u8_info
  have he : Tryz.prog.elem 40 = 5 := by kernel_rfl
  rw [run_slice_lh (ht := by rw [he]; exact Tryz.underlying40) (h0 := by omega) (h1 := by omega) (h2 := by omega), he]
  simp [sizeOf, typeInfo, hi, hz1, sliced, cutQ]
/-- A cut between two places reads as it says. -/
theorem Sees.mid {w : World} {g : Nat} {q : Option Addr} {b : List (BitVec 8)} {c f t : Nat} (h : Sees w g q (b.map u8v)) (hc : b.length ≤ c) :
    Sees w g (cutQ q c f) (((b.take t).drop f).map u8v) := by
  have h1 := h.cut (k := f) (cap := c) (by simpa using hc)
  rw [← List.map_drop] at h1
  have h2 := h1.head (t - f)
  rw [← List.map_take, ← List.drop_take] at h2
  exact h2
theorem mid_snoc (b : List (BitVec 8)) (f i : Nat) (hf : f ≤ i) (hi : i < b.length) : (b.take i).drop f ++ [at8 b i] = (b.take (i + 1)).drop f := by
  rw [take_at8 b i hi, List.drop_append_of_le_length (by rw [List.length_take]; omega)]
theorem at8_mid (b : List (BitVec 8)) (f t i : Nat) (h : f + i < t) : at8 ((b.take t).drop f) i = at8 b (f + i) := by
  simp only [at8, List.getD_eq_getElem?_getD, List.getElem?_drop, List.getElem?_take]
  rw [if_pos h]
theorem mid_length (b : List (BitVec 8)) (f t : Nat) (ht : t ≤ b.length) : ((b.take t).drop f).length = t - f := by
  rw [List.length_drop, List.length_take]; omega
theorem mid_nil (b : List (BitVec 8)) (f : Nat) : (b.take f).drop f = [] := List.drop_eq_nil_of_le (by rw [List.length_take]; omega)
/-- The sum that tells. -/
theorem hit_mid (m x d k t : Nat) (b : List (BitVec 8)) (n : Nat) (h1 : d ≤ m) (h2 : m ≤ n) (h3 : n ≤ b.length) : hit ⟨m, x, d, k, t⟩ b n = ((rsum (lastN d ((b.take n).drop (m - d))) &&& k) == t) := by
  rw [lastN_drop d (m - d) _ (by rw [List.length_take]; omega)]
  rfl
def fsOrder : List (Nat × Bool) := [(0, true), (1, true), (3, true), (4, true), (6, true), (7, true), (2, false), (5, true), (8, true)]
set_option maxHeartbeats 2000000 in
set_option maxRecDepth 100000 in
theorem first_any (r : Rl) (hr : r.Ok) (b : List (BitVec 8)) (q : Option Addr) (c g : Nat) (H : List (BitVec 8)) (w : World) (hc : b.length ≤ c) (hl : b.length < 9223372036854775807)
    (hs : Sees w g q (b.map u8v)) (hw : WinAt w g r.wd H) :
    Calls Tryz.prog 120 #[r.val, .pointer (some ⟨g, 0, none⟩), .slice q b.length c] w fun e w' => e = .returned (.int .i64 ((nx r b : Nat) : Int)) ∧ (∃ H', WinAt w' g r.wd H') ∧ Save g w w' := by
  obtain ⟨m, x, d, k, t⟩ := r
  obtain ⟨o1, o2, o3, o4, o5, o6, o7⟩ := hr
  simp only at o1 o2 o3 o4 o5 o6 o7 hw ⊢
  obtain ⟨N, hN⟩ : ∃ N, N = nx ⟨m, x, d, k, t⟩ b := ⟨_, rfl⟩
  have hN2 : scan (hit ⟨m, x, d, k, t⟩ b) (min x b.length) (min x b.length + 1 - m) m = N := hN.symm
  rw [← hN]
  unfold Rl.val ruleV
  simp only
  obtain ⟨T, hT⟩ : ∃ T, T = min x b.length := ⟨_, rfl⟩
  rw [← hT] at hN2
  have hTc : T ≤ c := by omega
  have hTl : T ≤ b.length := by omega
  have hTx : T ≤ 65536 := by omega
  have hmin : (if b.length < x then (b.length : Int) else (x : Int)) = (T : Int) := by split <;> omega
  have HS := Lib.hid hs
  have HW := Lib.hid (show WinAt (w.alloc (.cells (ruleL m x d k t).toArray 97)) g d H from hw.keep ((Below.refl _ _).alloc (Nat.le_refl _) _) hw.lt)
  have HG := Lib.hid hw.lt
  have HC := Lib.hid hc
  have HN := Lib.hid hN2
  have HR := Lib.hid (Has.made' w 97 _ (ruleL m x d k t) rfl)
  have HV := Lib.hid (Save.of_below (g := g) ((Below.refl w.heap.size w).alloc (Nat.le_refl _) (.cells (ruleL m x d k t).toArray 97)))
  unfold ruleL at HW HR HV ⊢
  have hct := cut_to q b.length c T hTc
  rw [cutQ_zero] at hct
  clear hs hw hN hN2 hc hT
  have HTL := Lib.hid hTl
  have HTC := Lib.hid hTc
  have HL := Lib.hid hl
  clear hTl hl
  go_enter Tryz.func120, Tryz.ntmps120
  go_upto_region 2 with (fail)
  try simp only [Int.toNat_natCast]
  clear hct hmin
  generalize w.alloc (.cells #[.int .i64 (m : Int), .int .i64 (x : Int), .int .i64 (d : Int), .int .u64 (k : Int), .int .u64 (t : Int)] 97) = w1 at *
  generalize hp : w.heap.size = p at *
  have HP := Lib.hid hp
  clear hp
  have c0 := HR.out.cellv (i := 0) rfl
  have c1 := HR.out.cellv (i := 1) rfl
  have c2 := HR.out.cellv (i := 2) rfl
  by_cases hm : T < m
  · have k0 : (T : Int) < (m : Int) := by omega
    have HE : Hid (T = N) := Lib.hid (by rw [← HN.out, show T + 1 - m = 0 by omega]; rfl)
    go_wp2_with fail
    go_ret
    exact ⟨by rw [HE.out]; rfl, ⟨_, HW.out⟩, HV.out⟩
  · have k0 : ¬ (T : Int) < (m : Int) := by omega
    have H1 := Lib.hid (reset_any w1 g d H HW.out)
    go_upto_region 5 with ((with_reducible refine H1.out.mono ?_); rintro e w2 ⟨rfl, hx2, hy2⟩; have HX2 := Lib.hid hx2; have HY2 := Lib.hid hy2; clear hx2 hy2)
    have HX := HX2
    have HPG : Hid (p ≠ g) := Lib.hid (by have := HG.out; omega)
    have HR2 := Lib.hid (HY2.out.has HPG.out HR.out)
    have HV2 := Lib.hid (HV.out.trans (Save.of_only HY2.out))
    have c0' := HR2.out.cellv (i := 0) rfl
    have c2' := HR2.out.cellv (i := 2) rfl
    clear c0 c1 c2 HR HW HV H1 k0 HY2 HX2
    have hts := HTL.out
    have htc := HTC.out
    have k1 : IntKind.i64.wrap ((m : Int) - (d : Int)) = ((m - d : Nat) : Int) := by rw [IntWalk.i64_in _ (by omega)]; omega
    have k2 : IntKind.i64.wrap ((m : Int) - 1) = ((m - 1 : Nat) : Int) := by rw [IntWalk.i64_in _ (by omega)]; omega
    have hcm := cut_mid q T c (m - d) (m - 1) (by omega) (by omega)
    have hcf := cut_from q T c (m - 1) (by omega)
    have hmd : Hid (m - d + d = m ∧ m - 1 + 1 = m ∧ m - 1 < T ∧ m - d ≤ m - 1 ∧ m - 1 - (m - d) + 1 = d) := Lib.hid (by omega)
    obtain ⟨n1, hn1⟩ : ∃ n1, n1 = m - 1 - (m - d) := ⟨_, rfl⟩
    obtain ⟨n2, hn2⟩ : ∃ n2, n2 = T - (m - 1) := ⟨_, rfl⟩
    rw [← hn1] at hcm hmd
    rw [← hn2] at hcf
    have HN1 := Lib.hid hn1
    have HN2 := Lib.hid hn2
    have HHIT := Lib.hid (fun n h2 h3 => hit_mid m x d k t b n o3 h2 h3)
    have hsA : Hid (Sees w g (cutQ q c (m - d)) (((b.take (m - 1)).drop (m - d)).map u8v)) := Lib.hid (HS.out.mid HC.out)
    have hsB : Hid (Sees w g (cutQ q c (m - 1)) (((b.take T).drop (m - 1)).map u8v)) := Lib.hid (HS.out.mid HC.out)
    have HM := Lib.hid hm
    have HO := Lib.hid (And.intro o1 (And.intro o2 (And.intro o3 (And.intro o4 o5))))
    have hb1 : n1 < 64 := by have := hmd.out; omega
    have hb2 : n2 ≤ 65536 := by omega
    have HN3 : Hid (n2 + (m - 1) = T) := Lib.hid (by have := hmd.out; omega)
    clear hn1 hn2 hts htc hm HC HS hTx hTc
    generalize m - d = f at *
    generalize m - 1 = m1 at *
    generalize cutQ q c f = qA at *
    generalize cutQ q c m1 = qB at *
    generalize c - f = cA at *
    generalize c - m1 = cB at *
    go_wp2_with fail
    go_loopw [38] (fun vi wr => ∃ j : Nat, j ≤ n1 ∧ vi = .int .i64 j ∧ WinAt wr g d ((b.take (f + j)).drop f) ∧ Has wr p 97 [.int .i64 (m : Int), .int .i64 (x : Int), .int .i64 (d : Int), .int .u64 (k : Int), .int .u64 (t : Int)] ∧ Save g w wr) (fun vi _ => n1 - (intOf vi).toNat)
    case atStart => exact ⟨0, by omega, rfl, by rw [Nat.add_zero, mid_nil]; exact HX.out, HR2.out, HV2.out⟩
    case round =>
      clear HX HR2 HV2 c0' c2' k1 hcm
      rename_i wr
      obtain ⟨j, hj, rfl, hX, hR, hV⟩ := hrel
      have HHR := Lib.hid hR
      have HHV := Lib.hid hV
      by_cases hlt : j < n1
      · obtain ⟨e1, e2, e3, e4, e5⟩ := hmd.out
        have hn1 := HN1.out
        have htl := HTL.out
        have hS2 := hsA.out.keep (hV.below (Nat.le_refl _) (by have := HG.out; have := HP.out; omega))
        have hlen := mid_length b f m1 (by omega)
        obtain ⟨ad, rfl, _, hcell⟩ := hS2.get (by rw [List.length_map, hlen]; omega)
        have cx := hcell j _ (at8_of _ j (by rw [hlen]; omega))
        rw [at8_mid b f m1 j (by omega)] at cx
        have hsn := mid_snoc b f (f + j) (by omega) (by omega)
        have H1 := addw_any wr g d ((b.take (f + j)).drop f) (at8 b (f + j)) HO.out.1 HO.out.2.1 hX
        rw [hsn] at H1
        replace H1 := Lib.hid H1
        generalize rsum (lastN d ((b.take (f + j + 1)).drop f)) = s at *
        generalize at8 b (f + j) = y at *
        have HM2 := Lib.hid (And.intro e1 (And.intro e2 (And.intro e3 (And.intro e4 e5))))
        have HN1' := Lib.hid hn1
        clear hcell hX hS2 hlen hsn hR hV e1 e2 e3 e4 e5 hn1 htl
        go_wp2_with ((with_reducible refine H1.out.mono ?_); rintro e w4 ⟨rfl, hX4, hO4⟩; have HX4 := Lib.hid hX4; have HO4 := Lib.hid hO4; clear hX4 hO4)
        go_roundw
        case rel => exact ⟨j + 1, by omega, by go_num, HX4.out, HO4.out.has HPG.out HHR.out, HHV.out.trans (Save.of_only HO4.out)⟩
        case measure => simp [intOf]; omega
      · have hjn : j = n1 := by omega
        have k0 : ¬ (j : Int) < (n1 : Int) := by omega
        have c0 := HHR.out.cellv (i := 0) rfl
        have HHX := Lib.hid hX
        clear hX hR hV hlt
        subst hjn
        go_wp2_with fail
        go_loopw [9, 10, 52] (fun _ _ vi wr => ∃ i : Nat, i ≤ n2 ∧ vi = .int .i64 i ∧ WinAt wr g d ((b.take (m1 + i)).drop f) ∧ Has wr p 97 [.int .i64 (m : Int), .int .i64 (x : Int), .int .i64 (d : Int), .int .u64 (k : Int), .int .u64 (t : Int)] ∧ Save g w wr ∧ scan (hit ⟨m, x, d, k, t⟩ b) T (T + 1 - (m + i)) (m + i) = N) (fun _ _ vi _ => n2 - (intOf vi).toNat)
        case atStart =>
          refine ⟨0, by omega, rfl, ?_, HHR.out, HHV.out, HN.out⟩
          have e : f + j = m1 + 0 := by have := HN1.out; have := hmd.out; omega
          rw [← e]; exact HHX.out
        case round =>
          clear HHX HHR HHV k0 c0 k2 hcf
          obtain ⟨i, hi, rfl, hX, hR, hV, hsc⟩ := hrel
          have HHR := Lib.hid hR
          have HHV := Lib.hid hV
          by_cases hlt : i < n2
          · obtain ⟨e1, e2, e3, e4, e5⟩ := hmd.out
            have hn3 := HN3.out
            have htl := HTL.out
            have hS2 := hsB.out.keep (hV.below (Nat.le_refl _) (by have := HG.out; have := HP.out; omega))
            have hlen := mid_length b m1 T (by omega)
            obtain ⟨ad, rfl, _, hcell⟩ := hS2.get (by rw [List.length_map, hlen]; omega)
            have cx := hcell i _ (at8_of _ i (by rw [hlen]; omega))
            rw [at8_mid b m1 T i (by omega)] at cx
            have hsn := mid_snoc b f (m1 + i) (by omega) (by omega)
            have H1 := fun v hv => addw_any v g d ((b.take (m1 + i)).drop f) (at8 b (m1 + i)) HO.out.1 HO.out.2.1 hv
            rw [hsn] at H1
            have hh := HHIT.out (m + i) (by omega) (by omega)
            rw [show m + i = m1 + i + 1 by omega] at hh hsc
            have HIT : Hid (m1 + i + 1 ≤ T) := Lib.hid (by omega)
            have hsl : rsum (lastN d ((b.take (m1 + i + 1)).drop f)) < 18446744073709551616 := Nat.lt_trans (rsum_lt _) (by omega)
            replace H1 := Lib.hid H1
            generalize rsum (lastN d ((b.take (m1 + i + 1)).drop f)) = s at *
            generalize at8 b (m1 + i) = y at *
            have HX := Lib.hid hX
            have ka := bits_and_u64_nat s k hsl o6
            have HSC := Lib.hid hsc
            have HNI : Hid (m1 + (i + 1) = m1 + i + 1 ∧ m + (i + 1) = m1 + i + 1 + 1) := Lib.hid (by omega)
            have HMI : Hid (m + i = m1 + i + 1) := Lib.hid (by omega)
            clear hcell hX hS2 hlen hsn hR hV e1 e2 e3 e4 e5 hn3 htl hsc hsl
            by_cases hv : (s &&& k) = t
            · have e1 : (((s &&& k : Nat) : Int) == (t : Int)) = true := by rw [hv]; simp
              have HRES : Hid (m1 + i + 1 = N) := Lib.hid (by rw [← HSC.out, scan_hit _ _ _ HIT.out (by rw [hh, hv]; simp)])
              have kw : IntKind.i64.wrap ((m : Int) + (i : Int)) = ((m1 + i + 1 : Nat) : Int) := by have := HNI.out; rw [IntWalk.i64_in _ (by omega)]; omega
              generalize (s &&& k) = a at *
              clear HSC hh
              go_wp2_with fail
              refine wp_region_ors (fun v => Has v p 97 [.int .i64 (m : Int), .int .i64 (x : Int), .int .i64 (d : Int), .int .u64 (k : Int), .int .u64 (t : Int)]) fsOrder (by kernel_rfl) (by kernel_rfl) (by kernel_rfl) HHR.out.drew ?_
              replace HHR := Lib.hid HHR.out.drew
              replace HHV := Lib.hid HHV.out.drew
              replace HX := Lib.hid HX.out.drew
              clear cx
              generalize wr.drew = wr3 at *
              unfold fsOrder
              simp only [pickOrs, List.getElem?_cons_zero, List.getElem?_cons_succ]
              refine ors_pure (v := ?_) (by kernel_rfl) ?_ ?_
              rotate_left
              · intro w' hv; clear hv; go_simp; try with_reducible rfl
              try simp only [Act.put, List.setIfInBounds_toArray, List.set_cons_zero, List.set_cons_succ]
              refine ors_pure (v := ?_) (by kernel_rfl) ?_ ?_
              rotate_left
              · intro w' hv; clear hv; go_simp; try with_reducible rfl
              try simp only [Act.put, List.setIfInBounds_toArray, List.set_cons_zero, List.set_cons_succ]
              refine ors_pure (v := ?_) (by kernel_rfl) ?_ ?_
              rotate_left
              · intro w' hv; clear hv; go_simp; try with_reducible rfl
              try simp only [Act.put, List.setIfInBounds_toArray, List.set_cons_zero, List.set_cons_succ]
              refine ors_pure (v := ?_) (by kernel_rfl) ?_ ?_
              rotate_left
              · intro w' hv; have cx := Has.cellv (i := 3) hv rfl; clear hv; go_simp; try with_reducible rfl
              try simp only [Act.put, List.setIfInBounds_toArray, List.set_cons_zero, List.set_cons_succ]
              refine ors_pure (v := ?_) (by kernel_rfl) ?_ ?_
              rotate_left
              · intro w' hv; clear hv; go_simp; try with_reducible rfl
              try simp only [Act.put, List.setIfInBounds_toArray, List.set_cons_zero, List.set_cons_succ]
              refine ors_pure (v := ?_) (by kernel_rfl) ?_ ?_
              rotate_left
              · intro w' hv; have cx := Has.cellv (i := 4) hv rfl; clear hv; go_simp; try with_reducible rfl
              try simp only [Act.put, List.setIfInBounds_toArray, List.set_cons_zero, List.set_cons_succ]
              refine ors_step (by kernel_rfl) (fun K hK => ?_)
              go_wp2_with fail
              refine (H1.out wr3 HX.out).mono ?_
              rintro e v1 ⟨rfl, hx1, ho1⟩
              replace HX := Lib.hid hx1
              replace HHR := Lib.hid (ho1.has HPG.out HHR.out)
              replace HHV := Lib.hid (HHV.out.trans (Save.of_only ho1))
              have c0 := HHR.out.cellv (i := 0) rfl
              clear hx1 ho1 H1
              go_wp2_with fail
              refine ⟨HHR.out, ?_⟩
              try simp only [Act.put, List.setIfInBounds_toArray, List.set_cons_zero, List.set_cons_succ]
              refine ors_pure (v := ?_) (by kernel_rfl) ?_ ?_
              rotate_left
              · intro w' hv; clear hv; go_simp; try with_reducible rfl
              try simp only [Act.put, List.setIfInBounds_toArray, List.set_cons_zero, List.set_cons_succ]
              refine ors_pure (v := ?_) (by kernel_rfl) ?_ ?_
              rotate_left
              · intro w' hv; clear hv; go_simp; try with_reducible rfl
              try simp only [Act.put, List.setIfInBounds_toArray, List.set_cons_zero, List.set_cons_succ]
              refine ors_nil ?_
              go_wp2_with fail
              go_ret
              exact ⟨by rw [← HRES.out]; rfl, ⟨_, HX.out⟩, HHV.out⟩
            · have e1 : (((s &&& k : Nat) : Int) == (t : Int)) = false := by rw [beq_eq_false_iff_ne]; omega
              have HRES : Hid (scan (hit ⟨m, x, d, k, t⟩ b) T (T + 1 - (m1 + i + 1 + 1)) (m1 + i + 1 + 1) = N) := Lib.hid (by rw [← HSC.out, scan_miss _ _ _ HIT.out (by rw [hh, beq_eq_false_iff_ne]; exact hv)])
              generalize (s &&& k) = a at *
              clear HSC hh
              go_wp2_with fail
              refine wp_region_ors (fun v => Has v p 97 [.int .i64 (m : Int), .int .i64 (x : Int), .int .i64 (d : Int), .int .u64 (k : Int), .int .u64 (t : Int)]) fsOrder (by kernel_rfl) (by kernel_rfl) (by kernel_rfl) HHR.out.drew ?_
              replace HHR := Lib.hid HHR.out.drew
              replace HHV := Lib.hid HHV.out.drew
              replace HX := Lib.hid HX.out.drew
              clear cx
              generalize wr.drew = wr3 at *
              unfold fsOrder
              simp only [pickOrs, List.getElem?_cons_zero, List.getElem?_cons_succ]
              refine ors_pure (v := ?_) (by kernel_rfl) ?_ ?_
              rotate_left
              · intro w' hv; clear hv; go_simp; try with_reducible rfl
              try simp only [Act.put, List.setIfInBounds_toArray, List.set_cons_zero, List.set_cons_succ]
              refine ors_pure (v := ?_) (by kernel_rfl) ?_ ?_
              rotate_left
              · intro w' hv; clear hv; go_simp; try with_reducible rfl
              try simp only [Act.put, List.setIfInBounds_toArray, List.set_cons_zero, List.set_cons_succ]
              refine ors_pure (v := ?_) (by kernel_rfl) ?_ ?_
              rotate_left
              · intro w' hv; clear hv; go_simp; try with_reducible rfl
              try simp only [Act.put, List.setIfInBounds_toArray, List.set_cons_zero, List.set_cons_succ]
              refine ors_pure (v := ?_) (by kernel_rfl) ?_ ?_
              rotate_left
              · intro w' hv; have cx := Has.cellv (i := 3) hv rfl; clear hv; go_simp; try with_reducible rfl
              try simp only [Act.put, List.setIfInBounds_toArray, List.set_cons_zero, List.set_cons_succ]
              refine ors_pure (v := ?_) (by kernel_rfl) ?_ ?_
              rotate_left
              · intro w' hv; clear hv; go_simp; try with_reducible rfl
              try simp only [Act.put, List.setIfInBounds_toArray, List.set_cons_zero, List.set_cons_succ]
              refine ors_pure (v := ?_) (by kernel_rfl) ?_ ?_
              rotate_left
              · intro w' hv; have cx := Has.cellv (i := 4) hv rfl; clear hv; go_simp; try with_reducible rfl
              try simp only [Act.put, List.setIfInBounds_toArray, List.set_cons_zero, List.set_cons_succ]
              refine ors_step (by kernel_rfl) (fun K hK => ?_)
              go_wp2_with fail
              refine (H1.out wr3 HX.out).mono ?_
              rintro e v1 ⟨rfl, hx1, ho1⟩
              replace HX := Lib.hid hx1
              replace HHR := Lib.hid (ho1.has HPG.out HHR.out)
              replace HHV := Lib.hid (HHV.out.trans (Save.of_only ho1))
              have c0 := HHR.out.cellv (i := 0) rfl
              clear hx1 ho1 H1
              go_wp2_with fail
              refine ⟨HHR.out, ?_⟩
              try simp only [Act.put, List.setIfInBounds_toArray, List.set_cons_zero, List.set_cons_succ]
              refine ors_pure (v := ?_) (by kernel_rfl) ?_ ?_
              rotate_left
              · intro w' hv; clear hv; go_simp; try with_reducible rfl
              try simp only [Act.put, List.setIfInBounds_toArray, List.set_cons_zero, List.set_cons_succ]
              refine ors_pure (v := ?_) (by kernel_rfl) ?_ ?_
              rotate_left
              · intro w' hv; clear hv; go_simp; try with_reducible rfl
              try simp only [Act.put, List.setIfInBounds_toArray, List.set_cons_zero, List.set_cons_succ]
              refine ors_nil ?_
              go_wp2_with fail
              go_roundw
              case rel => exact ⟨i + 1, by omega, by go_num, by rw [HNI.out.1]; exact HX.out, HHR.out, HHV.out, by rw [HNI.out.2]; exact HRES.out⟩
              case measure => simp [intOf]; omega
          · have hin : i = n2 := by omega
            have k0 : ¬ (i : Int) < (n2 : Int) := by omega
            have HE : Hid (T = N) := Lib.hid (by rw [← hsc, scan_end _ _ _ (by have := HN3.out; have := hmd.out; omega)])
            have HX := Lib.hid hX
            clear hlt hX hR hV hsc
            go_wp2_with fail
            go_ret
            exact ⟨by rw [HE.out]; rfl, ⟨_, HX.out⟩, HHV.out⟩
end Go.Proofs.YtmjonlffhhehjaaGreatDoor
/- Contract: cut.Next: where the first piece ends. Conditions: a text is no longer than its room, of fewer than 2^63 bytes. -/
namespace Go.Proofs.YtmjonlffhhehjaaGreatDoor
open Go.RowKit
theorem hw_nat (d : Nat) (h1 : 1 ≤ d) (h2 : d ≤ 64) : hw (d : Int) = d := by unfold hw; rw [if_neg (by omega), if_neg (by omega)]; omega
theorem okI_of {r : Rl} (h : r.Ok) : okI r.mn r.mx r.wd = true := by
  obtain ⟨o1, o2, o3, o4, o5, _, _⟩ := h
  unfold okI
  rw [decide_eq_true_iff]
  omega
theorem load_atN {P : Program} {o : Oper} {ev : Operand → Value} (T : TypeId) (x : Operand) (ho : o.op = .load T x) (g : Nat) (hx : ev x = .pointer (some ⟨g, 0, none⟩)) (t : TypeId) (l : List Value) (w : World)
    (hS : Has w g t l) (d : TypeDesc) (hu : P.underlying T = some d) (hd : (match d with | .struct _ | .array _ _ => true | _ => false) = true) (hi : (P.info? T).map (·.size) = some l.toArray.size) :
    (execOp ev o).run P w = .ok (.value (.agg l.toArray)) w := by
  unfold execOp
  simp only [ho, hx, Instr.loadAt, Instr.sureAddr, Sem.run_bind, Sem.run_pure, Result.andThen_ok, run_loadVar_row w g t T l.toArray (0, 0) d hS hu hd hi]
def nxOrder : List (Nat × Bool) := [(0, true), (1, true), (2, true), (4, true), (3, false), (5, false), (6, true)]
end Go.Proofs.YtmjonlffhhehjaaGreatDoor
/- Contract: cut.Ends: where each piece ends. Conditions: a text is of at most a million bytes, and no longer than its room. -/
namespace Go.Proofs.YtmjonlffhhehjaaGreatDoor
open Go.RowKit
def i64n (n : Nat) : Value := .int .i64 (n : Int)
theorem int_info : (Tryz.prog.info? 3).map (fun i => (i.zero, i.size, i.bytes)) = some (some (.int .i64 0), 1, 8) := by kernel_rfl
/-- One value is put behind a row that the call owns. -/
theorem wp_add1 {ops : Array Oper} {rest : List Oper} {o : Oper} {a : Act} {Q : Exit → Act → World → Prop} {T LT : TypeId} {z : Value} {by8 : Nat} (hLT : Tryz.prog.underlying LT = some (.slice T)) (hI : (Tryz.prog.info? T).map (fun i => (i.zero, i.size, i.bytes)) = some (some z, 1, by8)) (hz : z.cells.size = 1) (h8 : by8 ≤ 64)
    (hgd : o.guard = none) (sl x : Operand) (ho : o.op = .call { callee := .builtin .append, args := #[sl, x], argTypes := #[LT, LT] }) {w : World} {base : Nat} {v : Value} {xs : List Value} (R : w.ownsRow base T 1 v xs.length xs) (hbase : base ≤ w.heap.size)
    (hs : a.eval sl = v) (g : Nat) (u : Value) (hx : a.eval x = .slice (some ⟨g, 0, none⟩) 1 1) (hc : w.cell? ⟨g, 0, none⟩ = some u) (hu : u.oneCell' = true) (hn : xs.length ≤ 1000000)
    (h : ∀ v' w', w'.ownsRow base T 1 v' (xs ++ [u]).length (xs ++ [u]) → Below base w w' → wpList Tryz.prog ops Q rest (a.put o.dst v') w') : wpList Tryz.prog ops Q (o :: rest) a w := by
  obtain ⟨i0, hi, hz0, hz1, hz2⟩ := info_parts hI
  refine wpList_append_own _ hgd sl x LT ho base T i0 z 1 by8 hLT hi hz0 hz1 hz2 hz (by decide) v xs.length xs hs R ⟨g, 0, none⟩ 1 1 [u] hx rfl ?_ ?_ (by unfold maxLen; omega) ?_ hbase
    fun v' w' ho' hg' _ => h v' w' (by rw [List.length_append]; exact ho') ((Below.refl base w).grown hg' hbase (fun k hk => own_base R k hk))
  · intro j y hj
    cases j with
    | zero => simp at hj; subst hj; simpa [Addr.add] using hc
    | succ j => simp at hj
  · intro y hy; simp at hy; subst hy; exact hu
  · exact Nat.le_trans (Nat.mul_le_mul (show xs.length + 1 ≤ 1000001 by omega) h8) (by decide)
/-- The value v reads as these numbers. -/
def Ns (w : World) (v : Value) (l : List Nat) : Prop := ∃ q c, v = .slice q l.length c ∧ Sees w w.heap.size q (l.map i64n)
theorem Ns.keep {w w' : World} {v : Value} {l : List Nat} (h : Ns w v l) (hb : Below w.heap.size w w') : Ns w' v l := by
  obtain ⟨q, c, h1, h2⟩ := h
  exact ⟨q, c, h1, (h2.keep hb).more hb.size⟩
theorem Ns.nil (w : World) : Ns w (.slice none 0 0) [] := ⟨none, 0, rfl, Sees.nil _ _ _⟩
theorem Ns.own {w : World} {base n : Nat} {v : Value} {l : List Nat} (h : w.ownsRow base 3 1 v n (l.map i64n)) : Ns w v l := by
  have hn : l.length = n := by have := h.1; simpa using this
  subst hn
  rcases h.2 with ⟨rfl, h0⟩ | ⟨g, cap, cur, rfl, hb, hg, h1, _⟩
  · have : l = [] := List.eq_nil_of_length_eq_zero h0
    subst this
    exact Ns.nil w
  · refine ⟨_, cap, rfl, fun _ => ⟨_, rfl, (Array.getElem?_eq_some_iff.1 hg).1, ?_⟩⟩
    exact h.cells (g := g) rfl
/-- A row above the window's block stays when the window turns. -/
theorem own_save {w w' : World} {base n g : Nat} {e : TypeId} {v : Value} {xs : List Value} (h : w.ownsRow base e 1 v n xs) (hs : Save g w w') (hg : g < base) : w'.ownsRow base e 1 v n xs :=
  h.kept (row := some g) ⟨hs.os, hs.tape, hs.output, hs.size, fun k hk hn => hs.block k hk (fun e => hn (by rw [e]))⟩ (by
    rcases h.2 with ⟨rfl, _⟩ | ⟨k, cap, cur, rfl, hb, _⟩
    · exact .inl rfl
    · refine .inr ?_
      simp only [Value.ownBlock, ne_eq, Option.some.injEq]
      omega)
theorem Bs.keepN {w w' : World} {v : Value} {x : List (BitVec 8)} {n : Nat} (h : Bs w v x) (hb : Below n w w') (hn : w.heap.size ≤ n) : Bs w' v x := by
  obtain ⟨q, c, h1, h2, h3, h4⟩ := h
  exact ⟨q, c, h1, h2, h3, (h4.keep (hb.mono hn)).more hb.size⟩
set_option maxHeartbeats 1000000 in
set_option maxRecDepth 100000 in
theorem ends_bad (m x d k t : Int) (h : okI m x d = false) (b : List (BitVec 8)) (q : Option Addr) (c : Nat) (w : World) :
    Calls Tryz.prog 85 #[ruleV m x d k t, .slice q b.length c] w fun e w' => e = .returned (.slice none 0 0) ∧ Below w.heap.size w w' := by
  have HG := Lib.hid (fun w1 => cgood_any m x d k t w1)
  rw [h] at HG
  unfold ruleV ruleL at HG ⊢
  go_enter Tryz.func85, Tryz.ntmps85
  go_wp2_with ((with_reducible refine (HG.out _).mono ?_); rintro e w4 ⟨rfl, hB⟩; have HB := Lib.hid hB; clear hB)
  go_ret
  exact ⟨rfl, ((Below.refl _ _).alloc (Nat.le_refl _) _).trans (HB.out.mono (by simp))⟩
def enOrder : List (Nat × Bool) := [(0, true), (1, true), (2, true), (3, true), (4, true), (5, true), (6, false), (7, true), (8, true)]
set_option maxHeartbeats 2000000 in
set_option maxRecDepth 100000 in
theorem ends_good (r : Rl) (hr : r.Ok) (b : List (BitVec 8)) (q : Option Addr) (c : Nat) (w : World) (hc : b.length ≤ c) (hl : b.length ≤ 1000000) (hs : Sees w w.heap.size q (b.map u8v)) :
    Calls Tryz.prog 85 #[r.val, .slice q b.length c] w fun e w' => ∃ v, e = .returned v ∧ Ns w' v (endsL r 0 b) ∧ Below w.heap.size w w' := by
  have HG := Lib.hid (fun w1 => cgood_any r.mn r.mx r.wd r.mask r.want w1)
  rw [okI_of hr] at HG
  have HF := Lib.hid (fun (b : List (BitVec 8)) (q : Option Addr) c g H v hc hl hs hw => first_any r hr b q c g H v hc hl hs hw)
  have HW := Lib.hid (fun w1 => new_any (r.wd : Int) w1)
  rw [hw_nat r.wd hr.w1 hr.w2] at HW
  have HEN : Hid (∀ o (b : List (BitVec 8)), b.length ≠ 0 → endsL r o b = (o + nx r b) :: endsL r (o + nx r b) (b.drop (nx r b))) := Lib.hid (endsL_cons hr)
  have HPOS : Hid (∀ b : List (BitVec 8), b.length ≠ 0 → 1 ≤ nx r b) := Lib.hid (fun b hb => nx_pos hr hb)
  have HS := Lib.hid hs
  have HC := Lib.hid hc
  have HLN := Lib.hid hl
  have HCT := Lib.hid (fun f hf => cut_from q b.length c f hf)
  have HR := Lib.hid (Has.made' w 97 _ (ruleL r.mn r.mx r.wd r.mask r.want) rfl)
  have HB1 := Lib.hid ((Below.refl w.heap.size w).alloc (Nat.le_refl _) (.cells (ruleL r.mn r.mx r.wd r.mask r.want).toArray 97))
  have HZ : Hid ((w.alloc (.cells (ruleL r.mn r.mx r.wd r.mask r.want).toArray 97)).heap.size = w.heap.size + 1) := Lib.hid (by simp)
  have hz0 : Hid (endsL r 0 b = [] ++ endsL r 0 (b.drop 0)) := Lib.hid rfl
  obtain ⟨L, hL⟩ : ∃ L, L = endsL r 0 b := ⟨_, rfl⟩
  rw [← hL] at hz0 ⊢
  clear hs hc hr hL
  unfold Rl.val at HF ⊢
  unfold ruleV at HG HF ⊢
  unfold ruleL at HG HF HR HB1 HZ ⊢
  go_enter Tryz.func85, Tryz.ntmps85
  go_upto_region 4 with ((with_reducible refine (HG.out _).mono ?_); rintro e w4 ⟨rfl, hB⟩; have HB := Lib.hid hB; clear hB)
  have HB2 := Lib.hid (HB1.out.trans (HB.out.mono HB1.out.size))
  have HR2 := Lib.hid (HR.out.keep HB.out (by have := HZ.out; omega))
  have c2 := HR2.out.cellv (i := 2) rfl
  clear HB HB1 HR HZ HG
  go_upto_region 5 with ((with_reducible refine (HW.out _).mono ?_); rintro e v1 ⟨rfl, hx1, hb1, hz1⟩; have HX1 := Lib.hid hx1; have HBN := Lib.hid hb1; have HZ1 := Lib.hid hz1; clear hx1 hb1 hz1)
  have hg : w.heap.size < w4.heap.size := HR2.out.lt
  have HX := HX1
  have HR3 := Lib.hid (HR2.out.keep HBN.out hg)
  have HB3 := Lib.hid (HB2.out.trans (HBN.out.mono (Nat.le_of_lt hg)))
  have HGT : Hid (w.heap.size < w4.heap.size) := Lib.hid hg
  have HROW := Lib.hid (World.ownsRow_nil v1 (w4.heap.size + 1) 3 1)
  have HBASE : Hid (w4.heap.size + 1 ≤ v1.heap.size) := Lib.hid (by have := HZ1.out; omega)
  clear c2 HR2 HB2 HW HX1 HBN HZ1 hg
  generalize w4.heap.size = g at *
  go_wp2_with fail
  go_loopw [5, 7] (fun v vi wr => ∃ (xs : List Nat) (i : Nat) (H : List (BitVec 8)), i ≤ b.length ∧ vi = .int .i64 i ∧ xs.length ≤ i ∧ L = xs ++ endsL r i (b.drop i) ∧ wr.ownsRow (g + 1) 3 1 v (xs.map i64n).length (xs.map i64n) ∧ WinAt wr g r.wd H ∧ Has wr w.heap.size 97 [.int .i64 (r.mn : Int), .int .i64 (r.mx : Int), .int .i64 (r.wd : Int), .int .u64 (r.mask : Int), .int .u64 (r.want : Int)] ∧ Below w.heap.size w wr ∧ g + 1 ≤ wr.heap.size) (fun _ vi _ => b.length - (intOf vi).toNat)
  case atStart => exact ⟨[], 0, [], by omega, rfl, Nat.le_refl _, hz0.out, HROW.out, HX.out, HR3.out, HB3.out, HBASE.out⟩
  case round =>
    clear HX HR3 HB3 HROW HBASE hz0
    rename_i wr
    obtain ⟨xs, i, H, hi, rfl, hxi, hE, hrow, hX, hR, hB, hbase⟩ := hrel
    have HROW := Lib.hid hrow
    have HR := Lib.hid hR
    have HB := Lib.hid hB
    have HX := Lib.hid hX
    by_cases hlt : i < b.length
    · have HBASE := Lib.hid hbase
      have hdl : (b.drop i).length ≠ 0 := by rw [List.length_drop]; omega
      have he := HEN.out i (b.drop i) hdl
      have hp := HPOS.out (b.drop i) hdl
      have hnl := (nx_le r (b.drop i)).1
      rw [List.length_drop] at hnl
      rw [he, List.drop_drop] at hE
      have hss := (HS.out.cut (k := i) (cap := c) (by rw [List.length_map]; exact HC.out))
      rw [← List.map_drop] at hss
      replace hss : Sees w w.heap.size (cutQ q c i) ((b.drop i).map u8v) := hss
      have HF1 := Lib.hid (fun v hv hw => HF.out (b.drop i) (cutQ q c i) (c - i) g H v (by rw [List.length_drop]; have := HC.out; omega) (by rw [List.length_drop]; omega) hv hw)
      rw [List.length_drop] at HF1
      have hct := HCT.out i (by omega)
      have HSS := Lib.hid hss
      have hkw : IntKind.i64.wrap ((i : Int) + ((nx r (b.drop i) : Nat) : Int)) = ((i + nx r (b.drop i) : Nat) : Int) := by rw [IntWalk.i64_in _ (by omega)]; omega
      have HE := Lib.hid hE
      clear hrow hX hR hB hbase hdl he hss hE
      generalize nx r (b.drop i) = n at *
      generalize cutQ q c i = qi at *
      generalize c - i = ci at *
      obtain ⟨e, he⟩ : ∃ e, e = i + n := ⟨_, rfl⟩
      rw [← he] at hkw HE
      have HNI : Hid (i < e ∧ e ≤ b.length) := Lib.hid (by omega)
      clear he
      clear hp hnl
      go_wp2_with fail
      refine wp_region_ors (fun v => Has v w.heap.size 97 [.int .i64 (r.mn : Int), .int .i64 (r.mx : Int), .int .i64 (r.wd : Int), .int .u64 (r.mask : Int), .int .u64 (r.want : Int)]) enOrder (by kernel_rfl) (by kernel_rfl) (by kernel_rfl) HR.out.drew ?_
      replace HR := Lib.hid HR.out.drew
      replace HB := Lib.hid HB.out.drew
      replace HX := Lib.hid HX.out.drew
      replace HROW : Hid (wr.drew.ownsRow (g + 1) 3 1 _ (xs.map i64n).length (xs.map i64n)) := HROW
      replace HBASE : Hid (g + 1 ≤ wr.drew.heap.size) := HBASE
      generalize wr.drew = w5 at *
      unfold enOrder
      simp only [pickOrs, List.getElem?_cons_zero, List.getElem?_cons_succ]
      refine ors_pure (v := ?_) (by kernel_rfl) ?_ ?_
      rotate_left
      · intro w' hv; clear hv; go_simp; try with_reducible rfl
      try simp only [Act.put, List.setIfInBounds_toArray, List.set_cons_zero, List.set_cons_succ]
      refine ors_pure (by kernel_rfl) (fun w' hv => load_atN 97 (.tmp 2) rfl w.heap.size rfl 97 _ w' hv _ Tryz.underlying97 rfl (by kernel_rfl)) ?_
      try simp only [Act.put, List.setIfInBounds_toArray, List.set_cons_zero, List.set_cons_succ]
      refine ors_pure (v := ?_) (by kernel_rfl) ?_ ?_
      rotate_left
      · intro w' hv; clear hv; go_simp; try with_reducible rfl
      try simp only [Act.put, List.setIfInBounds_toArray, List.set_cons_zero, List.set_cons_succ]
      refine ors_pure (v := ?_) (by kernel_rfl) ?_ ?_
      rotate_left
      · intro w' hv; clear hv; go_simp; try with_reducible rfl
      try simp only [Act.put, List.setIfInBounds_toArray, List.set_cons_zero, List.set_cons_succ]
      refine ors_pure (v := ?_) (by kernel_rfl) ?_ ?_
      rotate_left
      · intro w' hv; clear hv; go_simp; try with_reducible rfl
      try simp only [Act.put, List.setIfInBounds_toArray, List.set_cons_zero, List.set_cons_succ]
      refine ors_pure (v := ?_) (by kernel_rfl) ?_ ?_
      rotate_left
      · intro w' hv; clear hv; go_simp; try with_reducible rfl
      try simp only [Act.put, List.setIfInBounds_toArray, List.set_cons_zero, List.set_cons_succ]
      refine ors_step (by kernel_rfl) (fun K hK => ?_)
      go_wp2_with fail
      refine (HF1.out w5 ((HSS.out.keep HB.out).more (Nat.le_of_lt HGT.out)) HX.out).mono ?_
      rintro e v2 ⟨rfl, ⟨H', hx'⟩, hsv⟩
      have hgt := HGT.out
      have HX2 := Lib.hid hx'
      replace HROW := Lib.hid (own_save HROW.out hsv (Nat.lt_succ_self g))
      have HB4 := Lib.hid (HB.out.trans (hsv.below (n := w.heap.size) (Nat.le_of_lt hgt) (by have := HBASE.out; omega)))
      replace HR := Lib.hid (hsv.has (by omega) HR.out)
      replace HBASE := Lib.hid (Nat.le_trans HBASE.out hsv.size)
      clear hsv hx' hgt HX HB
      go_wp2_with fail
      refine ⟨HR.out, ?_⟩
      try simp only [Act.put, List.setIfInBounds_toArray, List.set_cons_zero, List.set_cons_succ]
      refine ors_pure (v := ?_) (by kernel_rfl) ?_ ?_
      rotate_left
      · intro w' hv; clear hv; go_simp; try with_reducible rfl
      try simp only [Act.put, List.setIfInBounds_toArray, List.set_cons_zero, List.set_cons_succ]
      refine ors_pure (v := ?_) (by kernel_rfl) ?_ ?_
      rotate_left
      · intro w' hv; clear hv; go_simp; try with_reducible rfl
      try simp only [Act.put, List.setIfInBounds_toArray, List.set_cons_zero, List.set_cons_succ]
      refine ors_nil ?_
      have HLEN : Hid ((xs.map i64n).length ≤ 1000000) := Lib.hid (by rw [List.length_map]; have := HLN.out; omega)
      go_wp2_with (refine wp_add1 Tryz.underlying124 int_info rfl (by decide) rfl (.tmp 26) (.tmp 28) rfl (base := g + 1) (HROW.out.alloc (.cells #[.int .i64 (e : Int)] 3)) (by have := HBASE.out; simp; omega) rfl v2.heap.size (.int .i64 (e : Int)) rfl (by simp) rfl HLEN.out ?_; intro v3 w3 h1 h2; have HROW2 := Lib.hid h1; have HB5 := Lib.hid h2; clear h1 h2 HROW)
      go_roundw
      case rel =>
        have hsz : g + 1 ≤ v2.heap.size := HBASE.out
        have hb5 : Below (g + 1) v2 w3 := ((Below.refl (g + 1) v2).alloc hsz _).trans HB5.out
        have hgt := HGT.out
        have hrow := HROW2.out
        rw [show xs.map i64n ++ [Value.int .i64 (e : Int)] = (xs ++ [e]).map i64n by rw [List.map_append]; rfl] at hrow
        exact ⟨xs ++ [e], e, H', HNI.out.2, rfl, by rw [List.length_append, List.length_singleton]; have := HNI.out.1; omega, by rw [HE.out, List.append_assoc]; rfl, hrow, HX2.out.keep hb5 (Nat.lt_succ_self g), HR.out.keep hb5 (by omega), HB4.out.trans (hb5.mono (by omega)), Nat.le_trans hsz hb5.size⟩
      case measure => have := HNI.out; simp [intOf]; omega
    · have hib : i = b.length := by omega
      have k0 : ¬ (i : Int) < (b.length : Int) := by omega
      have HE : Hid (L = xs) := Lib.hid (by rw [hE, endsL_nil r _ _ (by rw [List.length_drop]; omega), List.append_nil])
      clear hrow hX hR hB hbase hE hlt
      go_wp2_with fail
      go_ret
      exact ⟨_, rfl, by rw [HE.out]; exact Ns.own HROW.out, HB.out⟩
end Go.Proofs.YtmjonlffhhehjaaGreatDoor
/- Contract: cut.Parts: the pieces. Conditions: a text is of at most a million bytes, no longer than its room, and has no room where it is nil. -/
namespace Go.Proofs.YtmjonlffhhehjaaGreatDoor
open Go.RowKit
theorem sl_info : (Tryz.prog.info? 40).map (fun i => (i.zero, i.size, i.bytes)) = some (some (.slice none 0 0), 1, 24) := by kernel_rfl
theorem made_runS (n : Nat) (hn : n ≤ 1000000) (w : World) :
    (Instr.makeSlice 82 (.int .i64 0) (.int .i64 (n : Int))).run Tryz.prog w = .ok (.slice (some ⟨w.heap.size, 0, none⟩) 0 n) (w.alloc (.cells (madeCells #[Value.slice none 0 0] n) 40)) := by
  obtain ⟨i0, hi, hz0, hz1, hz2⟩ := info_parts sl_info
  have := run_make (P := Tryz.prog) w 82 40 i0 (.slice none 0 0) Tryz.underlying82 hi hz0 .i64 .i64 0 n (by omega) (by omega) (by rw [hz2]; omega) (by omega)
  rw [hz1, Nat.mul_one, show (Value.slice none 0 0).cells = #[Value.slice none 0 0] from rfl] at this
  simpa using this
theorem cut_mid3 (a : Option Addr) (n cap f t : Nat) (h1 : f ≤ t) (h2 : t ≤ cap) (w : World) :
    (Instr.slice 40 (.slice a n cap) (some (.int .i64 (f : Int))) (some (.int .i64 (t : Int))) (some (.int .i64 (t : Int)))).run Tryz.prog w = .ok (.slice (cutQ a t f) (t - f) (t - f)) w := by
  obtain ⟨i0, hi, _, hz1, _⟩ := info_parts u8_info
  have he : Tryz.prog.elem 40 = 5 := by kernel_rfl
  rw [run_slice_lhm (ht := by rw [he]; exact Tryz.underlying40) (h0 := by omega) (h1 := by omega) (h2 := by omega) (h3 := by omega), he]
  simp [sizeOf, typeInfo, hi, hz1, sliced, cutQ]
/-- The i-th piece as it lies. -/
def pv (q : Option Addr) (L : List Nat) (i : Nat) : Value := .slice (cutQ q (L.getD i 0) (before L i)) (L.getD i 0 - before L i) (L.getD i 0 - before L i)
theorem piece_length (b : List (BitVec 8)) (L : List Nat) (i : Nat) (h : L.getD i 0 ≤ b.length) : (piece b L i).length = L.getD i 0 - before L i := by
  unfold piece; rw [List.length_drop, List.length_take]; omega
theorem pv_bs {w : World} {g : Nat} {q : Option Addr} {b : List (BitVec 8)} (h : Sees w g q (b.map u8v)) (hg : g ≤ w.heap.size) (L : List Nat) (i : Nat) (h1 : before L i < L.getD i 0) (h2 : L.getD i 0 ≤ b.length) : Bs w (pv q L i) (piece b L i) := by
  have hl := piece_length b L i h2
  have hh : Sees w g q ((b.take (L.getD i 0)).map u8v) := by rw [List.map_take]; exact h.head _
  have hm := hh.mid (c := L.getD i 0) (f := before L i) (t := L.getD i 0) (by rw [List.length_take]; omega)
  rw [List.take_take, Nat.min_self] at hm
  refine ⟨cutQ q (L.getD i 0) (before L i), L.getD i 0 - before L i, by unfold pv; rw [hl], by omega, fun h0 => ?_, hm.more hg⟩
  obtain ⟨a, rfl, _⟩ := h.get (by rw [List.length_map]; omega)
  unfold cutQ at h0
  rw [if_neg (by omega)] at h0
  cases h0
/-- The value v reads as these texts. -/
def Ps (w : World) (v : Value) (l : List (List (BitVec 8))) : Prop := ∃ (q : Option Addr) (c : Nat) (vs : List Value), v = .slice q l.length c ∧ Sees w w.heap.size q vs ∧ vs.length = l.length ∧ ∀ (i : Nat) (u : Value) (x : List (BitVec 8)), vs[i]? = some u → l[i]? = some x → Bs w u x
theorem Ps.nil (w : World) : Ps w (.slice none 0 0) [] := ⟨none, 0, [], rfl, Sees.nil _ _ _, rfl, fun i u x h => by simp at h⟩
theorem Ps.keep {w w' : World} {v : Value} {l : List (List (BitVec 8))} (h : Ps w v l) (hb : Below w.heap.size w w') : Ps w' v l := by
  obtain ⟨q, c, vs, h1, h2, h3, h4⟩ := h
  exact ⟨q, c, vs, h1, (h2.keep hb).more hb.size, h3, fun i u x hu hx => (h4 i u x hu hx).keep hb⟩
/-- All the pieces. -/
def pieces (b : List (BitVec 8)) (L : List Nat) : List (List (BitVec 8)) := (List.range L.length).map (piece b L)
theorem pieces_length (b : List (BitVec 8)) (L : List Nat) : (pieces b L).length = L.length := by unfold pieces; rw [List.length_map, List.length_range]
theorem Ps.own {w : World} {base g : Nat} {v : Value} {q : Option Addr} {b : List (BitVec 8)} {L : List Nat} (h : w.ownsRow base 40 1 v ((List.range L.length).map (pv q L)).length ((List.range L.length).map (pv q L)))
    (hs : Sees w g q (b.map u8v)) (hg : g ≤ w.heap.size) (hL : ∀ i, i < L.length → before L i < L.getD i 0 ∧ L.getD i 0 ≤ b.length) : Ps w v (pieces b L) := by
  rcases h.2 with ⟨rfl, h0⟩ | ⟨k, cap, cur, rfl, hb, hg', h1, _⟩
  · rw [List.length_map, List.length_range] at h0
    have : L = [] := List.eq_nil_of_length_eq_zero h0
    subst this
    exact Ps.nil w
  · refine ⟨_, cap, (List.range L.length).map (pv q L), by rw [pieces_length, List.length_map, List.length_range], fun _ => ⟨_, rfl, (Array.getElem?_eq_some_iff.1 hg').1, h.cells (g := k) rfl⟩, by rw [pieces_length, List.length_map, List.length_range], fun i u x hu hx => ?_⟩
    unfold pieces at hx
    rw [List.getElem?_map] at hu hx
    have hi : i < L.length := by
      rcases Nat.lt_or_ge i L.length with hlt | hge
      · exact hlt
      · rw [List.getElem?_eq_none (by rw [List.length_range]; exact hge)] at hu; cases hu
    rw [List.getElem?_range hi] at hu hx
    cases hu
    cases hx
    exact pv_bs hs hg L i (hL i hi).1 (hL i hi).2
theorem pv_one (q : Option Addr) (L : List Nat) (i : Nat) : (pv q L i).oneCell' = true := rfl
set_option maxHeartbeats 1000000 in
set_option maxRecDepth 100000 in
theorem parts_bad (m x d k t : Int) (h : okI m x d = false) (b : List (BitVec 8)) (q : Option Addr) (c : Nat) (w : World) :
    Calls Tryz.prog 43 #[ruleV m x d k t, .slice q b.length c] w fun e w' => e = .returned (.slice none 0 0) ∧ Below w.heap.size w w' := by
  have HG := Lib.hid (fun w1 => ends_bad m x d k t h b q c w1)
  unfold ruleV ruleL at HG ⊢
  go_enter Tryz.func43, Tryz.ntmps43
  go_wp2_with ((with_reducible refine (HG.out _).mono ?_); rintro e w4 ⟨rfl, hB⟩; have HB := Lib.hid hB; clear hB)
  go_ret
  exact ⟨rfl, ((Below.refl _ _).alloc (Nat.le_refl _) _).trans (HB.out.mono (by simp))⟩
set_option maxHeartbeats 2000000 in
set_option maxRecDepth 100000 in
theorem parts_good (r : Rl) (hr : r.Ok) (b : List (BitVec 8)) (q : Option Addr) (c : Nat) (w : World) (hc : b.length ≤ c) (hq : q = none → c = 0) (hl : b.length ≤ 1000000) (hs : Sees w w.heap.size q (b.map u8v)) :
    Calls Tryz.prog 43 #[r.val, .slice q b.length c] w fun e w' => ∃ v, e = .returned v ∧ Ps w' v (pieces b (endsL r 0 b)) ∧ Below w.heap.size w w' := by
  have HN := Lib.hid (fun v (hb : Below w.heap.size w v) => ends_good r hr b q c v hc hl ((hs.keep hb).more hb.size))
  have HLT : Hid (∀ i, i < (endsL r 0 b).length → before (endsL r 0 b) i < (endsL r 0 b).getD i 0 ∧ (endsL r 0 b).getD i 0 ≤ b.length) := Lib.hid (fun i hi => by
    obtain ⟨k1, k2, _⟩ := endsL_lt hr b i hi
    rw [getD_at _ i hi]
    exact ⟨k1, k2⟩)
  have HLL : Hid ((endsL r 0 b).length ≤ b.length) := Lib.hid (by
    have h1 := endsL_least hr b
    by_cases h0 : (endsL r 0 b).length = 0
    · omega
    · have h2 := h1 ((endsL r 0 b).length - 1) (by omega)
      obtain ⟨k1, k2, _⟩ := endsL_lt hr b ((endsL r 0 b).length - 1) (by omega)
      have h3 : (endsL r 0 b).length - 1 ≤ ((endsL r 0 b).length - 1) * r.mn := Nat.le_mul_of_pos_right _ (by have := hr.w1; have := hr.w3; omega)
      omega)
  have HEM : Hid ((endsL r 0 b).length = 0 → endsL r 0 b = []) := Lib.hid (fun h => List.eq_nil_of_length_eq_zero h)
  have HNE : Hid ((endsL r 0 b).length ≠ 0 → b.length ≠ 0) := Lib.hid (fun h h0 => h ((endsL_empty hr b).2 h0))
  have HS := Lib.hid hs
  have HC := Lib.hid hc
  have HQ := Lib.hid hq
  have HL := Lib.hid hl
  have HB1 := Lib.hid ((Below.refl w.heap.size w).alloc (Nat.le_refl _) (.cells (ruleL r.mn r.mx r.wd r.mask r.want).toArray 97))
  generalize endsL r 0 b = L at *
  clear hs hc hq hr
  unfold Rl.val at HN ⊢
  unfold ruleV at HN ⊢
  unfold ruleL at HN HB1 ⊢
  go_enter Tryz.func43, Tryz.ntmps43
  go_upto_region 2 with ((with_reducible refine (HN.out _ HB1.out).mono ?_); rintro e w4 ⟨v, rfl, ⟨qe, ce, rfl, hse⟩, hB⟩; have HB := Lib.hid hB; have HSE := Lib.hid hse; clear hB hse)
  have HB2 := Lib.hid (HB1.out.trans (HB.out.mono HB1.out.size))
  clear HB HB1 HN
  by_cases h0 : L.length = 0
  · have HE := Lib.hid (HEM.out h0)
    go_wp2_with fail
    go_ret
    refine ⟨_, rfl, ?_, HB2.out⟩
    rw [HE.out]
    exact Ps.nil _
  · have k0 : ¬ ((L.length : Int) = 0) := by omega
    have HS4 := Lib.hid (HS.out.keep HB2.out)
    have HB0 := Lib.hid HNE
    have HLE : Hid (0 + b.length ≤ 140737488355328) := Lib.hid (by omega)
    go_upto_region 5 with (refine wpList_append_sees rfl (.const (.slice none 0 0)) (.tmp 17) rfl w4.heap.size (.slice none 0 0) 0 [] rfl (World.ownsRow_nil _ _ _ _) q b c w.heap.size rfl HQ.out HS4.out HLE.out (Nat.le_refl _) ?_; intro v5 w5 h1 h2; have HOWN := Lib.hid h1; have HB5 := Lib.hid h2; clear h1 h2)
    have hown := HOWN.out
    rw [Nat.zero_add, List.nil_append] at hown
    obtain ⟨q5, c5, rfl, hc5, hq5, hs5⟩ := Bs.own hown
    have HS5 := Lib.hid hs5
    have HC5 := Lib.hid hc5
    have HSE5 := Lib.hid ((HSE.out.keep HB5.out).more HB5.out.size)
    have HB6 := Lib.hid (HB2.out.trans (HB5.out.mono HB2.out.size))
    have HZ6 := Lib.hid (Nat.le_trans HB2.out.size HB5.out.size)
    clear HB0 HOWN hown hc5 hq5 hs5 HSE HB5 HB2 HS4 HS HC HQ HLE HEM
    have hmk := made_runS L.length (by have := HLL.out; omega) w5
    have HA := Lib.hid ((Below.refl w5.heap.size w5).alloc (Nat.le_refl _) (.cells (madeCells #[Value.slice none 0 0] L.length) 40))
    have HROW : Hid ((w5.alloc (.cells (madeCells #[Value.slice none 0 0] L.length) 40)).ownsRow w5.heap.size 40 1 (.slice (some ⟨w5.heap.size, 0, none⟩) 0 L.length) 0 []) := Lib.hid (World.ownsRow_made w5 _ L.length (Nat.le_refl _) (by have := HLL.out; unfold maxLen; omega) (by rw [Nat.mul_one]; exact size_madeCells _ _))
    go_wp2_with fail
    clear hmk
    generalize w5.alloc (.cells (madeCells #[Value.slice none 0 0] L.length) 40) = w6 at *
    go_loopw [7, 8, 24] (fun v va vi wr => ∃ j : Nat, j ≤ L.length ∧ vi = .int .i64 j ∧ va = .int .i64 (before L j : Nat) ∧ wr.ownsRow w5.heap.size 40 1 v ((List.range j).map (pv q5 L)).length ((List.range j).map (pv q5 L)) ∧ Below w5.heap.size w5 wr) (fun _ _ vi _ => L.length - (intOf vi).toNat)
    case atStart => exact ⟨0, by omega, rfl, rfl, HROW.out, HA.out⟩
    case round =>
      clear HROW HA
      rename_i wr
      obtain ⟨j, hj, rfl, rfl, hrow, hB⟩ := hrel
      have HROW := Lib.hid hrow
      have HB := Lib.hid hB
      by_cases hlt : j < L.length
      · obtain ⟨ad, rfl, _, hcell⟩ := (HSE5.out.keep hB).get (by rw [List.length_map]; omega)
        have cx := hcell j (i64n L[j]) (by rw [List.getElem?_map, List.getElem?_eq_getElem hlt]; rfl)
        unfold i64n at cx
        obtain ⟨k1, k2⟩ := HLT.out j hlt
        have hbs := before_succ L j hlt
        rw [← getD_at L j hlt] at cx hbs
        have hcm := cut_mid3 q5 b.length c5 (before L j) (L.getD j 0) (by omega) (by have := HC5.out; omega)
        have HPV : Hid (pv q5 L j = .slice (cutQ q5 (L.getD j 0) (before L j)) (L.getD j 0 - before L j) (L.getD j 0 - before L j)) := Lib.hid rfl
        have HPO := Lib.hid (pv_one q5 L j)
        rw [HPV.out] at HPO
        have HBS := Lib.hid hbs
        have HXL : Hid (((List.range j).map (pv q5 L)).length ≤ 1000000) := Lib.hid (by rw [List.length_map, List.length_range]; have := HLL.out; omega)
        clear hcell hrow hB hbs k1 k2
        generalize cutQ q5 (L.getD j 0) (before L j) = qp at *
        generalize L.getD j 0 - before L j = np at *
        generalize L.getD j 0 = e at *
        generalize before L j = p0 at *
        have HBASE := Lib.hid HB.out.size
        have hll : j < 1000000 := by have := HLL.out; omega
        go_wp2_with (refine wp_add1 Tryz.underlying82 sl_info rfl (by decide) rfl (.tmp 28) (.tmp 34) rfl (base := w5.heap.size) (HROW.out.alloc (.cells #[.slice qp np np] 40)) (by have := HBASE.out; simp; omega) rfl wr.heap.size (.slice qp np np) rfl (by simp) HPO.out HXL.out ?_; intro v7 w7 h1 h2; have HROW2 := Lib.hid h1; have HB7 := Lib.hid h2; clear h1 h2 HROW)
        go_roundw
        case rel =>
          have hrow := HROW2.out
          rw [← HPV.out, show (List.range j).map (pv q5 L) ++ [pv q5 L j] = (List.range (j + 1)).map (pv q5 L) by rw [List.range_succ, List.map_append]; rfl] at hrow
          refine ⟨j + 1, by omega, by go_num, ?_, hrow, (HB.out.alloc HBASE.out _).trans HB7.out⟩
          rw [HBS.out]
        case measure => simp [intOf]; omega
      · have hjl : j = L.length := by omega
        subst hjl
        have k3 : ¬ ((L.length : Int) < (L.length : Int)) := by omega
        clear hrow hB hlt
        go_wp2_with fail
        go_ret
        exact ⟨_, rfl, Ps.own HROW.out (HS5.out.keep HB.out) HB.out.size HLT.out, HB6.out.trans (HB.out.mono HZ6.out)⟩
end Go.Proofs.YtmjonlffhhehjaaGreatDoor
/- Plain laws: more of where pieces end: how many there are, what they are together. No condition but that a rule may be. -/
namespace Go.Proofs.YtmjonlffhhehjaaGreatDoor
theorem endsL_count {r : Rl} (h : r.Ok) (b : List (BitVec 8)) : (endsL r 0 b).length ≤ b.length := by
  by_cases h0 : (endsL r 0 b).length = 0
  · omega
  · have h2 := endsL_least h b ((endsL r 0 b).length - 1) (by omega)
    obtain ⟨k1, k2, _⟩ := endsL_lt h b ((endsL r 0 b).length - 1) (by omega)
    have h3 : (endsL r 0 b).length - 1 ≤ ((endsL r 0 b).length - 1) * r.mn := Nat.le_mul_of_pos_right _ (by have := h.w1; have := h.w3; omega)
    omega
/-- What the first i pieces are together. -/
theorem pieces_join {r : Rl} (h : r.Ok) (b : List (BitVec 8)) : ∀ i, i ≤ (endsL r 0 b).length → ((List.range i).map (piece b (endsL r 0 b))).flatten = b.take (before (endsL r 0 b) i)
  | 0, _ => by rw [before_zero]; rfl
  | i + 1, hi => by
    obtain ⟨k1, k2, _⟩ := endsL_lt h b i hi
    rw [List.range_succ, List.map_append, List.flatten_append, pieces_join h b i (by omega), before_succ _ i hi]
    simp only [List.map_cons, List.map_nil, List.flatten_cons, List.flatten_nil, List.append_nil]
    unfold piece
    rw [getD_at _ i hi]
    have e : (b.take (endsL r 0 b)[i]).take (before (endsL r 0 b) i) = b.take (before (endsL r 0 b) i) := by rw [List.take_take, Nat.min_eq_left (by omega)]
    have e2 := List.take_append_drop (before (endsL r 0 b) i) (b.take (endsL r 0 b)[i])
    rw [e] at e2
    exact e2
theorem pieces_all {r : Rl} (h : r.Ok) (b : List (BitVec 8)) : (pieces b (endsL r 0 b)).flatten = b := by
  unfold pieces
  rw [pieces_join h b _ (Nat.le_refl _), endsL_last h b, List.take_length]
end Go.Proofs.YtmjonlffhhehjaaGreatDoor
