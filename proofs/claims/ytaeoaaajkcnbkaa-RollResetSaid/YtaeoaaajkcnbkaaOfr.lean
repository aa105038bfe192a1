/- Contracts: roll.Of; the document's own times, Roll and Slide. Condition: a text is of fewer than 2^63 bytes. -/
import Derived.Test.YtaeoaaajkcnbkaaPow
import Derived.Test.YtaeoaaajkcnbkaaByte
import Derived.Deep.QuietTactic
import Derived.BigQuiet
namespace Go.Proofs.Ytaeoaaajkcnbkaa
open Go.RowKit
theorem quiet_same {P : Program} {f : FuncId} {args : Array Value} {w : World} {n : Nat} {v : Value}
    (h : Calls P f args (w.drewN n) fun e w' => e = .returned v ∧ w.drewN n = w') : Calls P f args (w.drewN n) fun e w'' => e = .returned v ∧ ∃ m, w'' = w.drewN m :=
  h.mono fun _ _ ⟨he, hm⟩ => ⟨he, n, hm.symm⟩
theorem u8v_B (l : List (BitVec 8)) (k : Nat) (h : k < l.length) : (l.map u8v)[k]? = some (.int .u8 (B (at8 l k))) := at8_of l k h
theorem rsum_take (b : List (BitVec 8)) (k : Nat) (h : k < b.length) : (rsum (b.take k) * 257 + ((at8 b k).toNat + 1)) % 2305843009213693951 = rsum (b.take (k + 1)) := by
  rw [take_at8 b k h, rsum_snoc]
set_option maxHeartbeats 1000000 in
set_option maxRecDepth 100000 in
theorem of_any (b : List (BitVec 8)) (q : Option Addr) (c : Nat) (w : World) (hs : Sees w w.heap.size q (b.map u8v)) (hl : b.length < 9223372036854775807) :
    Calls Try.prog 14 #[.slice q b.length c] w fun e w' => e = .returned (.int .u64 ((rsum b : Nat) : Int)) ∧ w = w' := by
  have HS := Lib.hid hs
  clear hs
  go_enter Try.func14, Try.ntmps14
  go_wp2_with fail
  go_loop [3, 8] (fun v i => ∃ k s : Nat, k ≤ b.length ∧ i = .int .i64 k ∧ v = .int .u64 (s : Int) ∧ s = rsum (b.take k)) (fun _ i => b.length - (intOf i).toNat)
  case atStart => exact ⟨0, 0, by omega, rfl, rfl, rfl⟩
  case round =>
    obtain ⟨k, s, hk, rfl, rfl, hv⟩ := hrel
    by_cases hlt : k < b.length
    · obtain ⟨p, rfl, _, hcell⟩ := HS.out (by simp; omega)
      have hx := hcell k _ (at8_of b k hlt)
      have hr := rsum_take b k hlt
      have hsl : s < 2305843009213693951 := by rw [hv]; exact rsum_lt _
      rw [← hv] at hr
      have H1 := Lib.hid (fun w1 => with_any s (at8 b k) hsl w1)
      rw [hr] at H1
      obtain ⟨s', hs'⟩ : ∃ s', s' = rsum (b.take (k + 1)) := ⟨_, rfl⟩
      rw [← hs'] at H1
      have HR := Lib.hid hs'
      clear hcell hr hsl hv hs'
      generalize at8 b k = x at *
      go_wp2_with (first | ((with_reducible refine (H1.out _).mono ?_); rintro e w1 ⟨rfl, rfl⟩))
      go_round
      case rel => exact ⟨k + 1, s', by omega, by go_num, rfl, HR.out⟩
      case measure => simp [intOf]; omega
    · have hkl : k = b.length := by omega
      rw [hkl, List.take_length] at hv
      subst hv
      have k1 : ¬ (k : Int) < (b.length : Int) := by omega
      clear hlt hkl
      go_wp2_with fail
      go_ret
      exact ⟨rfl, rfl⟩
set_option maxHeartbeats 1000000 in
set_option maxRecDepth 100000 in
theorem rtimes_any (x y : Nat) (hx : x < 2305843009213693951) (hy : y < 18446744073709551616) (w : World) :
    Calls Try.prog 22 #[.int .u64 (x : Int), .int .u64 (y : Int)] w fun e w' => e = .returned (.int .u64 ((x * y % 2305843009213693951 : Nat) : Int)) ∧ w = w' := by
  obtain ⟨K, hK⟩ : ∃ K, K = x * y % 2305843009213693951 := ⟨_, rfl⟩
  have hK2 : mulC 0 x y = K := by rw [hK, mulC_start]
  rw [← hK]
  have HK := Lib.hid hK2
  have HX := Lib.hid hx
  have HY := Lib.hid hy
  clear hK hK2 hx hy
  go_enter Try.func22, Try.ntmps22
  go_wp2_with fail
  go_loop [0, 1, 5] (fun va vb vr => ∃ a b r : Nat, va = .int .u64 (a : Int) ∧ vb = .int .u64 (b : Int) ∧ vr = .int .u64 (r : Int) ∧ a < 2305843009213693951 ∧ r < 2305843009213693951 ∧ b < 18446744073709551616 ∧ mulC r a b = K) (fun _ vb _ => (intOf vb).toNat)
  case atStart => exact ⟨x, y, 0, rfl, rfl, rfl, HX.out, by omega, HY.out, HK.out⟩
  case round =>
    clear HK HX HY
    obtain ⟨a, b, r, rfl, rfl, rfl, ha, hr, hb, hc⟩ := hrel
    by_cases h0 : b = 0
    · subst h0
      rw [mulC_zero _ _ hr] at hc
      subst hc
      clear hb
      go_wp2_with fail
      go_ret
      exact ⟨rfl, rfl⟩
    · have k0 : (0 : Int) < (b : Int) := by omega
      have k1 : (b : Int) % 2 = ((b % 2 : Nat) : Int) := by omega
      have k2 : (b : Int).tdiv 2 = ((b / 2 : Nat) : Int) := rfl
      have k7 : IntKind.u64.wrap ((b / 2 : Nat) : Int) = ((b / 2 : Nat) : Int) := wrapC _ (by omega)
      have k3 : IntKind.u64.wrap ((a : Int) + (a : Int)) = ((a + a : Nat) : Int) := by rw [IntKind.wrap_u64]; omega
      have k4 : ((a + a : Nat) : Int) % 2305843009213693951 = (((a + a) % 2305843009213693951 : Nat) : Int) := by omega
      have k5 : IntKind.u64.wrap ((r : Int) + (a : Int)) = ((r + a : Nat) : Int) := by rw [IntKind.wrap_u64]; omega
      have k6 : ((r + a : Nat) : Int) % 2305843009213693951 = (((r + a) % 2305843009213693951 : Nat) : Int) := by omega
      have Hn := Lib.hid (show b / 2 < 18446744073709551616 ∧ b / 2 < b by omega)
      have Ha := Lib.hid (show (a + a) % 2305843009213693951 < 2305843009213693951 from Nat.mod_lt _ (by omega))
      have Hr := Lib.hid (show (r + a) % 2305843009213693951 < 2305843009213693951 from Nat.mod_lt _ (by omega))
      by_cases ho : b % 2 = 1
      · have HC := Lib.hid ((mulC_odd r a b ho).trans hc)
        rw [ho] at k1
        clear hc ho h0 hr hb ha
        generalize b / 2 = b' at *
        generalize (a + a) % 2305843009213693951 = a' at *
        generalize (r + a) % 2305843009213693951 = r' at *
        generalize a + a = a2 at *
        generalize r + a = r2 at *
        go_wp2_with fail
        go_round
        case rel => exact ⟨a', b', r', by rw [k4], rfl, by rw [k6], Ha.out, Hr.out, Hn.out.1, HC.out⟩
        case measure => have := Hn.out.2; simp [intOf]; omega
      · have ho' : b % 2 = 0 := by omega
        have HC := Lib.hid ((mulC_even r a b ho').trans hc)
        have Hr2 := Lib.hid hr
        rw [ho'] at k1
        clear hc ho ho' h0 hr hb ha k5 k6 Hr
        generalize b / 2 = b' at *
        generalize (a + a) % 2305843009213693951 = a' at *
        generalize a + a = a2 at *
        go_wp2_with fail
        go_round
        case rel => exact ⟨a', b', r, by rw [k4], rfl, rfl, Ha.out, Hr2.out, Hn.out.1, HC.out⟩
        case measure => have := Hn.out.2; simp [intOf]; omega
theorem rtimes257_any (x : Nat) (hx : x < 2305843009213693951) (w : World) :
    Calls Try.prog 22 #[.int .u64 (x : Int), .int .u64 257] w fun e w' => e = .returned (.int .u64 ((x * 257 % 2305843009213693951 : Nat) : Int)) ∧ w = w' := rtimes_any x 257 hx (by omega) w
set_option maxHeartbeats 1000000 in
set_option maxRecDepth 100000 in
theorem rroll_any (b : List (BitVec 8)) (q : Option Addr) (c : Nat) (w : World) (hs : Sees w w.heap.size q (b.map u8v)) (hl : b.length < 9223372036854775807) :
    Calls Try.prog 16 #[.slice q b.length c] w fun e w' => e = .returned (.int .u64 ((rsum b : Nat) : Int)) ∧ Below w.heap.size w w' := by
  have HS := Lib.hid hs
  clear hs
  go_enter Try.func16, Try.ntmps16
  go_wp2_with fail
  go_loopw [3, 4] (fun v i wr => ∃ k s : Nat, k ≤ b.length ∧ i = .int .i64 k ∧ v = .int .u64 (s : Int) ∧ s = rsum (b.take k) ∧ Below w.heap.size w wr) (fun _ i _ => b.length - (intOf i).toNat)
  case atStart => exact ⟨0, 0, by omega, rfl, rfl, rfl, Below.refl _ _⟩
  case round =>
    rename_i wr
    obtain ⟨k, s, hk, rfl, rfl, hv, hB⟩ := hrel
    have HB := Lib.hid hB
    by_cases hlt : k < b.length
    · obtain ⟨p, rfl, _, hcell⟩ := (HS.out.keep hB) (by simp; omega)
      have hx := hcell k _ (at8_of b k hlt)
      have hr := rsum_take b k hlt
      have hsl : s < 2305843009213693951 := by rw [hv]; exact rsum_lt _
      rw [← hv] at hr
      have hc := (at8 b k).isLt
      have H1 := Lib.hid (fun w1 => rtimes257_any s hsl w1)
      have htl : s * 257 % 2305843009213693951 < 2305843009213693951 := Nat.mod_lt _ (by omega)
      rw [← Nat.mod_add_mod] at hr
      obtain ⟨s', hs'⟩ : ∃ s', s' = rsum (b.take (k + 1)) := ⟨_, rfl⟩
      rw [← hs'] at hr
      have HR := Lib.hid hs'
      generalize s * 257 % 2305843009213693951 = t at *
      unfold B at hx
      generalize (at8 b k).toNat = m at *
      have k1 : IntKind.u64.wrap (m : Int) = (m : Int) := wrapC _ (by omega)
      have k2 : IntKind.u64.wrap ((t : Int) + (m : Int)) = ((t + m : Nat) : Int) := by rw [IntKind.wrap_u64]; omega
      have k3 : IntKind.u64.wrap (((t + m : Nat) : Int) + 1) = ((t + m + 1 : Nat) : Int) := by rw [IntKind.wrap_u64]; omega
      have k4 : ((t + m + 1 : Nat) : Int) % 2305843009213693951 = (s' : Int) := by omega
      clear hcell hr hsl hv hs' hB htl hc
      generalize t + m + 1 = t2 at *
      generalize t + m = t1 at *
      go_wp2_with fail
      go_quiet (exact quiet_same (H1.out _))
      have HB2 := Lib.hid (below_drewN HB.out nq)
      generalize wr.drewN nq = wq at HB2 ⊢
      go_wp2_with fail
      go_round
      case rel => exact ⟨k + 1, s', by omega, by go_num, by rw [k4], HR.out, HB2.out⟩
      case measure => simp [intOf]; omega
    · have hkl : k = b.length := by omega
      rw [hkl, List.take_length] at hv
      subst hv
      have k1 : ¬ (k : Int) < (b.length : Int) := by omega
      clear hlt hkl hB
      go_wp2_with fail
      go_ret
      exact ⟨rfl, HB.out⟩
set_option maxHeartbeats 1000000 in
set_option maxRecDepth 100000 in
theorem rslide_any (s : Nat) (o i : BitVec 8) (n : Int) (w : World) (hn : -9223372036854775808 ≤ n ∧ n ≤ 9223372036854775807) :
    Calls Try.prog 17 #[.int .u64 (s : Int), .int .u8 (B o), .int .u8 (B i), .int .i64 n] w fun e w' => e = .returned (.int .u64 ((sl s o i (hw n) : Nat) : Int)) ∧ w = w' := by
  obtain ⟨b1, b2⟩ := hw_bd n
  have HW : Hid ((hw n : Int) = if n < 1 then 1 else if 64 < n then 64 else n) := Lib.hid (by unfold hw; split; · rfl
                                                                                              split <;> omega)
  generalize hw n = m at *
  have lo := o.isLt
  have li := i.isLt
  have q1 : IntKind.u64.wrap (B o) = (o.toNat : Int) := by unfold B; rw [IntKind.wrap_u64]; omega
  have q2 : IntKind.u64.wrap ((o.toNat : Int) + 1) = ((o.toNat + 1 : Nat) : Int) := by rw [IntKind.wrap_u64]; omega
  have q3 : IntKind.u64.wrap (B i) = (i.toNat : Int) := by unfold B; rw [IntKind.wrap_u64]; omega
  have hx0 : o.toNat + 1 = (o.toNat + 1) * pw (1 - 1) % 2305843009213693951 := by rw [Nat.sub_self, pw_zero, Nat.mul_one]; omega
  have hstep := fun k => pw_succ (o.toNat + 1) k
  have hend : sl s o i m = ((s % 2305843009213693951 + (2305843009213693951 - (o.toNat + 1) * pw (m - 1) % 2305843009213693951)) % 2305843009213693951 * 257 + (i.toNat + 1)) % 2305843009213693951 := rfl
  generalize sl s o i m = R at *
  have HX0 := Lib.hid hx0
  have HS := Lib.hid hstep
  have HE := Lib.hid hend
  clear hx0 hstep hend
  obtain ⟨X, hX⟩ : ∃ X : Nat → Nat, X = fun k => (o.toNat + 1) * pw k % 2305843009213693951 := ⟨_, rfl⟩
  have HXl : Hid (∀ k, X k < 2305843009213693951) := Lib.hid (by rw [hX]; intro k; exact Nat.mod_lt _ (by omega))
  replace HX0 : Hid (o.toNat + 1 = X (1 - 1)) := Lib.hid (by rw [hX]; exact HX0.out)
  replace HS : Hid (∀ k, X k * 257 % 2305843009213693951 = X (k + 1)) := Lib.hid (by rw [hX]; exact HS.out)
  replace HE : Hid (R = ((s % 2305843009213693951 + (2305843009213693951 - X (m - 1))) % 2305843009213693951 * 257 + (i.toNat + 1)) % 2305843009213693951) := Lib.hid (by rw [hX]; exact HE.out)
  have Hb1 := Lib.hid b1
  have Hb2 := Lib.hid b2
  have Hlo := Lib.hid lo
  have Hli := Lib.hid li
  clear hX b1 b2 lo li
  generalize o.toNat + 1 = o1 at *
  generalize o.toNat = o2 at *
  generalize i.toNat = i2 at *
  by_cases c1 : n < 1
  · skip
    have HV : Hid ((m : Int) = 1) := Lib.hid (by have := HW.out; omega)
    clear HW
    go_enter Try.func17, Try.ntmps17
    go_wp2_with fail
    go_loop [9, 10] (fun vx vi => ∃ k x : Nat, vx = .int .u64 (x : Int) ∧ vi = .int .i64 (k : Int) ∧ 1 ≤ k ∧ k ≤ m ∧ x = X (k - 1)) (fun _ vi => m - (intOf vi).toNat)
    case atStart => exact ⟨1, o1, rfl, rfl, by omega, Hb1.out, HX0.out⟩
    case round =>
      obtain ⟨k, x, rfl, rfl, h1, hk, hx⟩ := hrel
      have hxl := HXl.out (k - 1)
      rw [← hx] at hxl
      have hb := Hb2.out
      by_cases hlt : k < m
      · have k0 : (k : Int) < 1 := by have := HV.out; omega
        have h2 := HS.out (k - 1)
        rw [← hx, show k - 1 + 1 = k by omega] at h2
        have H1 := Lib.hid (fun w1 => rtimes257_any x hxl w1)
        rw [h2] at H1
        have HK : Hid (X k = X (k + 1 - 1)) := Lib.hid (by rw [Nat.add_sub_cancel])
        generalize X k = x' at *
        clear hx hxl h2
        go_wp2_with (first | ((with_reducible refine (H1.out _).mono ?_); rintro e w1 ⟨rfl, rfl⟩))
        go_round
        case rel => exact ⟨k + 1, x', rfl, by go_num, by omega, by omega, HK.out⟩
        case measure => simp [intOf]; omega
      · have hkm : k = m := by omega
        subst hkm
        have he := HE.out
        rw [← hx] at he
        have hl := Hli.out
        have k0 : ¬ (k : Int) < 1 := by have := HV.out; omega
        have k1 : (s : Int) % 2305843009213693951 = ((s % 2305843009213693951 : Nat) : Int) := by omega
        have hm1 : s % 2305843009213693951 < 2305843009213693951 := Nat.mod_lt _ (by omega)
        generalize s % 2305843009213693951 = s1 at *
        have k2 : IntKind.u64.wrap ((s1 : Int) + 2305843009213693951) = ((s1 + 2305843009213693951 : Nat) : Int) := by rw [IntKind.wrap_u64]; omega
        have k3 : IntKind.u64.wrap (((s1 + 2305843009213693951 : Nat) : Int) - (x : Int)) = ((s1 + (2305843009213693951 - x) : Nat) : Int) := by rw [IntKind.wrap_u64]; omega
        have k4 : ((s1 + (2305843009213693951 - x) : Nat) : Int) % 2305843009213693951 = (((s1 + (2305843009213693951 - x)) % 2305843009213693951 : Nat) : Int) := by omega
        have hm2 : (s1 + (2305843009213693951 - x)) % 2305843009213693951 < 2305843009213693951 := Nat.mod_lt _ (by omega)
        have H1 := Lib.hid (fun w1 => rtimes257_any _ hm2 w1)
        rw [← Nat.mod_add_mod] at he
        generalize (s1 + (2305843009213693951 - x)) % 2305843009213693951 = s2 at *
        have hm3 : s2 * 257 % 2305843009213693951 < 2305843009213693951 := Nat.mod_lt _ (by omega)
        generalize s2 * 257 % 2305843009213693951 = s3 at *
        have k5 : IntKind.u64.wrap ((s3 : Int) + (i2 : Int)) = ((s3 + i2 : Nat) : Int) := by rw [IntKind.wrap_u64]; omega
        have k6 : IntKind.u64.wrap (((s3 + i2 : Nat) : Int) + 1) = ((s3 + i2 + 1 : Nat) : Int) := by rw [IntKind.wrap_u64]; omega
        have k7 : ((s3 + i2 + 1 : Nat) : Int) % 2305843009213693951 = (R : Int) := by omega
        have K7 := Lib.hid k7
        clear he hl hm1 hm2 hm3 hx hxl hlt hk k7 h1 hb
        generalize s3 + i2 + 1 = s5 at *
        generalize s3 + i2 = s4 at *
        generalize s1 + (2305843009213693951 - x) = s7 at *
        generalize s1 + 2305843009213693951 = s6 at *
        go_wp2_with (first | ((with_reducible refine (H1.out _).mono ?_); rintro e w1 ⟨rfl, rfl⟩))
        go_ret
        exact ⟨by rw [K7.out]; rfl, rfl⟩
  · by_cases c2 : 64 < n
    · skip
      have HV : Hid ((m : Int) = 64) := Lib.hid (by have := HW.out; omega)
      clear HW
      go_enter Try.func17, Try.ntmps17
      go_wp2_with fail
      go_loop [9, 10] (fun vx vi => ∃ k x : Nat, vx = .int .u64 (x : Int) ∧ vi = .int .i64 (k : Int) ∧ 1 ≤ k ∧ k ≤ m ∧ x = X (k - 1)) (fun _ vi => m - (intOf vi).toNat)
      case atStart => exact ⟨1, o1, rfl, rfl, by omega, Hb1.out, HX0.out⟩
      case round =>
        obtain ⟨k, x, rfl, rfl, h1, hk, hx⟩ := hrel
        have hxl := HXl.out (k - 1)
        rw [← hx] at hxl
        have hb := Hb2.out
        by_cases hlt : k < m
        · have k0 : (k : Int) < 64 := by have := HV.out; omega
          have h2 := HS.out (k - 1)
          rw [← hx, show k - 1 + 1 = k by omega] at h2
          have H1 := Lib.hid (fun w1 => rtimes257_any x hxl w1)
          rw [h2] at H1
          have HK : Hid (X k = X (k + 1 - 1)) := Lib.hid (by rw [Nat.add_sub_cancel])
          generalize X k = x' at *
          clear hx hxl h2
          go_wp2_with (first | ((with_reducible refine (H1.out _).mono ?_); rintro e w1 ⟨rfl, rfl⟩))
          go_round
          case rel => exact ⟨k + 1, x', rfl, by go_num, by omega, by omega, HK.out⟩
          case measure => simp [intOf]; omega
        · have hkm : k = m := by omega
          subst hkm
          have he := HE.out
          rw [← hx] at he
          have hl := Hli.out
          have k0 : ¬ (k : Int) < 64 := by have := HV.out; omega
          have k1 : (s : Int) % 2305843009213693951 = ((s % 2305843009213693951 : Nat) : Int) := by omega
          have hm1 : s % 2305843009213693951 < 2305843009213693951 := Nat.mod_lt _ (by omega)
          generalize s % 2305843009213693951 = s1 at *
          have k2 : IntKind.u64.wrap ((s1 : Int) + 2305843009213693951) = ((s1 + 2305843009213693951 : Nat) : Int) := by rw [IntKind.wrap_u64]; omega
          have k3 : IntKind.u64.wrap (((s1 + 2305843009213693951 : Nat) : Int) - (x : Int)) = ((s1 + (2305843009213693951 - x) : Nat) : Int) := by rw [IntKind.wrap_u64]; omega
          have k4 : ((s1 + (2305843009213693951 - x) : Nat) : Int) % 2305843009213693951 = (((s1 + (2305843009213693951 - x)) % 2305843009213693951 : Nat) : Int) := by omega
          have hm2 : (s1 + (2305843009213693951 - x)) % 2305843009213693951 < 2305843009213693951 := Nat.mod_lt _ (by omega)
          have H1 := Lib.hid (fun w1 => rtimes257_any _ hm2 w1)
          rw [← Nat.mod_add_mod] at he
          generalize (s1 + (2305843009213693951 - x)) % 2305843009213693951 = s2 at *
          have hm3 : s2 * 257 % 2305843009213693951 < 2305843009213693951 := Nat.mod_lt _ (by omega)
          generalize s2 * 257 % 2305843009213693951 = s3 at *
          have k5 : IntKind.u64.wrap ((s3 : Int) + (i2 : Int)) = ((s3 + i2 : Nat) : Int) := by rw [IntKind.wrap_u64]; omega
          have k6 : IntKind.u64.wrap (((s3 + i2 : Nat) : Int) + 1) = ((s3 + i2 + 1 : Nat) : Int) := by rw [IntKind.wrap_u64]; omega
          have k7 : ((s3 + i2 + 1 : Nat) : Int) % 2305843009213693951 = (R : Int) := by omega
          have K7 := Lib.hid k7
          clear he hl hm1 hm2 hm3 hx hxl hlt hk k7 h1 hb
          generalize s3 + i2 + 1 = s5 at *
          generalize s3 + i2 = s4 at *
          generalize s1 + (2305843009213693951 - x) = s7 at *
          generalize s1 + 2305843009213693951 = s6 at *
          go_wp2_with (first | ((with_reducible refine (H1.out _).mono ?_); rintro e w1 ⟨rfl, rfl⟩))
          go_ret
          exact ⟨by rw [K7.out]; rfl, rfl⟩
    · skip
      have HV : Hid ((m : Int) = n) := Lib.hid (by have := HW.out; omega)
      clear HW
      go_enter Try.func17, Try.ntmps17
      go_wp2_with fail
      go_loop [9, 10] (fun vx vi => ∃ k x : Nat, vx = .int .u64 (x : Int) ∧ vi = .int .i64 (k : Int) ∧ 1 ≤ k ∧ k ≤ m ∧ x = X (k - 1)) (fun _ vi => m - (intOf vi).toNat)
      case atStart => exact ⟨1, o1, rfl, rfl, by omega, Hb1.out, HX0.out⟩
      case round =>
        obtain ⟨k, x, rfl, rfl, h1, hk, hx⟩ := hrel
        have hxl := HXl.out (k - 1)
        rw [← hx] at hxl
        have hb := Hb2.out
        by_cases hlt : k < m
        · have k0 : (k : Int) < n := by have := HV.out; omega
          have h2 := HS.out (k - 1)
          rw [← hx, show k - 1 + 1 = k by omega] at h2
          have H1 := Lib.hid (fun w1 => rtimes257_any x hxl w1)
          rw [h2] at H1
          have HK : Hid (X k = X (k + 1 - 1)) := Lib.hid (by rw [Nat.add_sub_cancel])
          generalize X k = x' at *
          clear hx hxl h2
          go_wp2_with (first | ((with_reducible refine (H1.out _).mono ?_); rintro e w1 ⟨rfl, rfl⟩))
          go_round
          case rel => exact ⟨k + 1, x', rfl, by go_num, by omega, by omega, HK.out⟩
          case measure => simp [intOf]; omega
        · have hkm : k = m := by omega
          subst hkm
          have he := HE.out
          rw [← hx] at he
          have hl := Hli.out
          have k0 : ¬ (k : Int) < n := by have := HV.out; omega
          have k1 : (s : Int) % 2305843009213693951 = ((s % 2305843009213693951 : Nat) : Int) := by omega
          have hm1 : s % 2305843009213693951 < 2305843009213693951 := Nat.mod_lt _ (by omega)
          generalize s % 2305843009213693951 = s1 at *
          have k2 : IntKind.u64.wrap ((s1 : Int) + 2305843009213693951) = ((s1 + 2305843009213693951 : Nat) : Int) := by rw [IntKind.wrap_u64]; omega
          have k3 : IntKind.u64.wrap (((s1 + 2305843009213693951 : Nat) : Int) - (x : Int)) = ((s1 + (2305843009213693951 - x) : Nat) : Int) := by rw [IntKind.wrap_u64]; omega
          have k4 : ((s1 + (2305843009213693951 - x) : Nat) : Int) % 2305843009213693951 = (((s1 + (2305843009213693951 - x)) % 2305843009213693951 : Nat) : Int) := by omega
          have hm2 : (s1 + (2305843009213693951 - x)) % 2305843009213693951 < 2305843009213693951 := Nat.mod_lt _ (by omega)
          have H1 := Lib.hid (fun w1 => rtimes257_any _ hm2 w1)
          rw [← Nat.mod_add_mod] at he
          generalize (s1 + (2305843009213693951 - x)) % 2305843009213693951 = s2 at *
          have hm3 : s2 * 257 % 2305843009213693951 < 2305843009213693951 := Nat.mod_lt _ (by omega)
          generalize s2 * 257 % 2305843009213693951 = s3 at *
          have k5 : IntKind.u64.wrap ((s3 : Int) + (i2 : Int)) = ((s3 + i2 : Nat) : Int) := by rw [IntKind.wrap_u64]; omega
          have k6 : IntKind.u64.wrap (((s3 + i2 : Nat) : Int) + 1) = ((s3 + i2 + 1 : Nat) : Int) := by rw [IntKind.wrap_u64]; omega
          have k7 : ((s3 + i2 + 1 : Nat) : Int) % 2305843009213693951 = (R : Int) := by omega
          have K7 := Lib.hid k7
          clear he hl hm1 hm2 hm3 hx hxl hlt hk k7 h1 hb
          generalize s3 + i2 + 1 = s5 at *
          generalize s3 + i2 = s4 at *
          generalize s1 + (2305843009213693951 - x) = s7 at *
          generalize s1 + 2305843009213693951 = s6 at *
          go_wp2_with (first | ((with_reducible refine (H1.out _).mono ?_); rintro e w1 ⟨rfl, rfl⟩))
          go_ret
          exact ⟨by rw [K7.out]; rfl, rfl⟩
end Go.Proofs.Ytaeoaaajkcnbkaa
