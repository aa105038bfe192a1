/- Contracts: roll.Of; the document's own times, Roll and Slide. Condition: a text is of fewer than 2^63 bytes. -/
import Derived.Test.YthpledfjopbchaaDoorPow
import Derived.Test.YthpledfjopbchaaDoorByte
import Derived.Deep.QuietTactic
import Derived.BigQuiet
namespace Go.Proofs.YthpledfjopbchaaDoor
open Go.RowKit
theorem quiet_same {P : Program} {f : FuncId} {args : Array Value} {w : World} {n : Nat} {v : Value}
    (h : Calls P f args (w.drewN n) fun e w' => e = .returned v ∧ w.drewN n = w') : Calls P f args (w.drewN n) fun e w'' => e = .returned v ∧ ∃ m, w'' = w.drewN m :=
  h.mono fun _ _ ⟨he, hm⟩ => ⟨he, n, hm.symm⟩
theorem u8v_B (l : List (BitVec 8)) (k : Nat) (h : k < l.length) : (l.map u8v)[k]? = some (.int .u8 (B (at8 l k))) := at8_of l k h
theorem rsum_take (b : List (BitVec 8)) (k : Nat) (h : k < b.length) : (rsum (b.take k) * 257 + ((at8 b k).toNat + 1)) % 2305843009213693951 = rsum (b.take (k + 1)) := by
  rw [take_at8 b k h, rsum_snoc]
set_option maxHeartbeats 1000000 in
set_option maxRecDepth 100000 in
theorem rtimes_any (x y : Nat) (hx : x < 2305843009213693951) (hy : y < 18446744073709551616) (w : World) :
    Calls Tryd.prog 80 #[.int .u64 (x : Int), .int .u64 (y : Int)] w fun e w' => e = .returned (.int .u64 ((x * y % 2305843009213693951 : Nat) : Int)) ∧ w = w' := by
  obtain ⟨K, hK⟩ : ∃ K, K = x * y % 2305843009213693951 := ⟨_, rfl⟩
  have hK2 : mulC 0 x y = K := by rw [hK, mulC_start]
  rw [← hK]
  have HK := Lib.hid hK2
  have HX := Lib.hid hx
  have HY := Lib.hid hy
  clear hK hK2 hx hy
  go_enter Tryd.func80, Tryd.ntmps80
  go_wp2_with fail
  go_loop [0, 1, 5] (fun va vb vr => ∃ a b r : Nat, va = .int .u64 (a : Int) ∧ vb = .int .u64 (b : Int) ∧ vr = .int .u64 (r : Int) ∧ a < 2305843009213693951 ∧ r < 2305843009213693951 ∧ b < 18446744073709551616 ∧ mulC r a b = K) (fun _ vb _ => (intOf vb).toNat)
  case atStart => exact ⟨x, y, 0, rfl, rfl, rfl, HX.out, by omega, HY.out, HK.out⟩
  case round =>
    clear HK HX HY
    obtain ⟨a, b, r, rfl, rfl, rfl, ha, hr, hb, hc⟩ := hrel
    by_cases h0 : b = 0
    · subst h0
      rw [mulC_zero _ _ hr] at hc
      subst hc
      clear hb
      go_wp2_with fail
      go_ret
      exact ⟨rfl, rfl⟩
    · have k0 : (0 : Int) < (b : Int) := by omega
      have k1 : (b : Int) % 2 = ((b % 2 : Nat) : Int) := by omega
      have k2 : (b : Int).tdiv 2 = ((b / 2 : Nat) : Int) := rfl
      have k7 : IntKind.u64.wrap ((b / 2 : Nat) : Int) = ((b / 2 : Nat) : Int) := wrapC _ (by omega)
      have k3 : IntKind.u64.wrap ((a : Int) + (a : Int)) = ((a + a : Nat) : Int) := by rw [IntKind.wrap_u64]; omega
      have k4 : ((a + a : Nat) : Int) % 2305843009213693951 = (((a + a) % 2305843009213693951 : Nat) : Int) := by omega
      have k5 : IntKind.u64.wrap ((r : Int) + (a : Int)) = ((r + a : Nat) : Int) := by rw [IntKind.wrap_u64]; omega
      have k6 : ((r + a : Nat) : Int) % 2305843009213693951 = (((r + a) % 2305843009213693951 : Nat) : Int) := by omega
      have Hn := Lib.hid (show b / 2 < 18446744073709551616 ∧ b / 2 < b by omega)
      have Ha := Lib.hid (show (a + a) % 2305843009213693951 < 2305843009213693951 from Nat.mod_lt _ (by omega))
      have Hr := Lib.hid (show (r + a) % 2305843009213693951 < 2305843009213693951 from Nat.mod_lt _ (by omega))
      by_cases ho : b % 2 = 1
      · have HC := Lib.hid ((mulC_odd r a b ho).trans hc)
        rw [ho] at k1
        clear hc ho h0 hr hb ha
        generalize b / 2 = b' at *
        generalize (a + a) % 2305843009213693951 = a' at *
        generalize (r + a) % 2305843009213693951 = r' at *
        generalize a + a = a2 at *
        generalize r + a = r2 at *
        go_wp2_with fail
        go_round
        case rel => exact ⟨a', b', r', by rw [k4], rfl, by rw [k6], Ha.out, Hr.out, Hn.out.1, HC.out⟩
        case measure => have := Hn.out.2; simp [intOf]; omega
      · have ho' : b % 2 = 0 := by omega
        have HC := Lib.hid ((mulC_even r a b ho').trans hc)
        have Hr2 := Lib.hid hr
        rw [ho'] at k1
        clear hc ho ho' h0 hr hb ha k5 k6 Hr
        generalize b / 2 = b' at *
        generalize (a + a) % 2305843009213693951 = a' at *
        generalize a + a = a2 at *
        go_wp2_with fail
        go_round
        case rel => exact ⟨a', b', r, by rw [k4], rfl, rfl, Ha.out, Hr2.out, Hn.out.1, HC.out⟩
        case measure => have := Hn.out.2; simp [intOf]; omega
theorem rtimes257_any (x : Nat) (hx : x < 2305843009213693951) (w : World) :
    Calls Tryd.prog 80 #[.int .u64 (x : Int), .int .u64 257] w fun e w' => e = .returned (.int .u64 ((x * 257 % 2305843009213693951 : Nat) : Int)) ∧ w = w' := rtimes_any x 257 hx (by omega) w
set_option maxHeartbeats 1000000 in
set_option maxRecDepth 100000 in
theorem rroll_any (b : List (BitVec 8)) (q : Option Addr) (c : Nat) (w : World) (hs : Sees w w.heap.size q (b.map u8v)) (hl : b.length < 9223372036854775807) :
    Calls Tryd.prog 61 #[.slice q b.length c] w fun e w' => e = .returned (.int .u64 ((rsum b : Nat) : Int)) ∧ Below w.heap.size w w' := by
  have HS := Lib.hid hs
  clear hs
  go_enter Tryd.func61, Tryd.ntmps61
  go_wp2_with fail
  go_loopw [3, 4] (fun v i wr => ∃ k s : Nat, k ≤ b.length ∧ i = .int .i64 k ∧ v = .int .u64 (s : Int) ∧ s = rsum (b.take k) ∧ Below w.heap.size w wr) (fun _ i _ => b.length - (intOf i).toNat)
  case atStart => exact ⟨0, 0, by omega, rfl, rfl, rfl, Below.refl _ _⟩
  case round =>
    rename_i wr
    obtain ⟨k, s, hk, rfl, rfl, hv, hB⟩ := hrel
    have HB := Lib.hid hB
    by_cases hlt : k < b.length
    · obtain ⟨p, rfl, _, hcell⟩ := (HS.out.keep hB) (by simp; omega)
      have hx := hcell k _ (at8_of b k hlt)
      have hr := rsum_take b k hlt
      have hsl : s < 2305843009213693951 := by rw [hv]; exact rsum_lt _
      rw [← hv] at hr
      have hc := (at8 b k).isLt
      have H1 := Lib.hid (fun w1 => rtimes257_any s hsl w1)
      have htl : s * 257 % 2305843009213693951 < 2305843009213693951 := Nat.mod_lt _ (by omega)
      rw [← Nat.mod_add_mod] at hr
      obtain ⟨s', hs'⟩ : ∃ s', s' = rsum (b.take (k + 1)) := ⟨_, rfl⟩
      rw [← hs'] at hr
      have HR := Lib.hid hs'
      generalize s * 257 % 2305843009213693951 = t at *
      unfold B at hx
      generalize (at8 b k).toNat = m at *
      have k1 : IntKind.u64.wrap (m : Int) = (m : Int) := wrapC _ (by omega)
      have k2 : IntKind.u64.wrap ((t : Int) + (m : Int)) = ((t + m : Nat) : Int) := by rw [IntKind.wrap_u64]; omega
      have k3 : IntKind.u64.wrap (((t + m : Nat) : Int) + 1) = ((t + m + 1 : Nat) : Int) := by rw [IntKind.wrap_u64]; omega
      have k4 : ((t + m + 1 : Nat) : Int) % 2305843009213693951 = (s' : Int) := by omega
      clear hcell hr hsl hv hs' hB htl hc
      generalize t + m + 1 = t2 at *
      generalize t + m = t1 at *
      go_wp2_with fail
      go_quiet (exact quiet_same (H1.out _))
      have HB2 := Lib.hid (below_drewN HB.out nq)
      generalize wr.drewN nq = wq at HB2 ⊢
      go_wp2_with fail
      go_round
      case rel => exact ⟨k + 1, s', by omega, by go_num, by rw [k4], HR.out, HB2.out⟩
      case measure => simp [intOf]; omega
    · have hkl : k = b.length := by omega
      rw [hkl, List.take_length] at hv
      subst hv
      have k1 : ¬ (k : Int) < (b.length : Int) := by omega
      clear hlt hkl hB
      go_wp2_with fail
      go_ret
      exact ⟨rfl, HB.out⟩
end Go.Proofs.YthpledfjopbchaaDoor
