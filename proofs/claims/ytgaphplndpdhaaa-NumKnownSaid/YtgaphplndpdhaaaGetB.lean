/- Contract: num.GetBytes. Conditions: fewer than 2^47 bytes; a nil slice has no capacity. -/
import Derived.Test.YtgaphplndpdhaaaGet
import Derived.Test.YtgaphplndpdhaaaClone
namespace Go.Proofs.Ytgaphplndpdhaaa
open Go.RowKit
/-- What GetBytes answers. -/
def gbL (b : List (BitVec 8)) (most : Int) : List (BitVec 8) × Nat × Nat :=
  if (getL b).2.2 ≠ 0 then ([], 0, (getL b).2.2)
  else if most < 0 ∨ most < ((getL b).1 : Int) then ([], 0, 2)
  else if b.length - (getL b).2.1 < (getL b).1 then ([], 0, 3)
  else ((b.drop (getL b).2.1).take (getL b).1, (getL b).2.1 + (getL b).1, 0)
theorem getL_bd (b : List (BitVec 8)) : (getL b).1 < 18446744073709551616 ∧ (getL b).2.1 ≤ b.length ∧ ((getL b).2.2 = 0 ∨ (getL b).2.2 = 2 ∨ (getL b).2.2 = 3) := by
  rcases getA_err b 0 0 with h | ⟨h, h1, h2⟩ | ⟨h, h1, h2⟩
  · have := getL_back b (getL b).1 (getL b).2.1 (by rw [show 0 = (getL b).2.2 from h.symm])
    exact ⟨this.2.2.2, this.2.1, .inl h⟩
  · have e1 : (getL b).1 = 0 := h1
    have e2 : (getL b).2.1 = 0 := h2
    exact ⟨by omega, by omega, .inr (.inl h)⟩
  · have e1 : (getL b).1 = 0 := h1
    have e2 : (getL b).2.1 = 0 := h2
    exact ⟨by omega, by omega, .inr (.inr h)⟩
def GaveB (w : World) (r : List (BitVec 8) × Nat × Nat) (e : Ending) (w' : World) : Prop := ∃ v, e = .returned (.tuple #[v, .int .i64 (r.2.1 : Int), .int .i64 (r.2.2 : Int)]) ∧ Bs w' v r.1 ∧ Below w.heap.size w w'
theorem cut_mid (a : Option Addr) (n cap f k : Nat) (h1 : f + k ≤ cap) (w : World) :
    (Instr.slice 23 (.slice a n cap) (some (.int .i64 (f : Int))) (some (.int .i64 ((f : Int) + (k : Int)))) none).run Try.prog w = .ok (.slice (cutQ a cap f) k (cap - f)) w := by
  obtain ⟨i0, hi, _, hz1, _⟩ := info_parts u8_info
  have he : Try.prog.elem 23 = 5 := by kernel_rfl
  have e1 : ((f : Int) + (k : Int)).toNat = f + k := by omega
  rw [run_slice_lh (ht := by rw [he]; exact Try.underlying23) (h0 := by omega) (h1 := by omega) (h2 := by omega), he, e1]
  simp [sizeOf, typeInfo, hi, hz1, sliced, cutQ]
theorem mid_sees {w : World} {b : List (BitVec 8)} {q : Option Addr} {c : Nat} (hs : Sees w w.heap.size q (b.map u8v)) (hc : b.length ≤ c) (f k : Nat) : Sees w w.heap.size (cutQ q c f) (((b.drop f).take k).map u8v) := by
  rw [List.map_take, List.map_drop]
  exact (hs.cut (k := f) (cap := c) (by simpa using hc)).head k
set_option maxHeartbeats 2000000 in
theorem getBytes_any (b : List (BitVec 8)) (q : Option Addr) (c : Nat) (most : Int) (w : World) (hs : Sees w w.heap.size q (b.map u8v)) (hc : b.length ≤ c) (hq : q = none → c = 0) (hl : b.length ≤ 70368744177664)
    (m0 : -9223372036854775808 ≤ most) (m1 : most ≤ 9223372036854775807) :
    Calls Try.prog 10 #[.slice q b.length c, .int .i64 most] w (GaveB w (gbL b most)) := by
  have h1 := get_any b q c w hs (by omega)
  obtain ⟨b1, b2, b3⟩ := getL_bd b
  have HG : Hid (gbL b most = gbL b most) := Lib.hid rfl
  obtain ⟨R, hR⟩ : ∃ R, R = gbL b most := ⟨_, rfl⟩
  rw [← hR]
  unfold gbL at hR
  have HS := Lib.hid hs
  have HQ := Lib.hid hq
  obtain ⟨v, hv⟩ : ∃ v, v = (getL b).1 := ⟨_, rfl⟩
  obtain ⟨n, hn⟩ : ∃ n, n = (getL b).2.1 := ⟨_, rfl⟩
  obtain ⟨er, he⟩ : ∃ er, er = (getL b).2.2 := ⟨_, rfl⟩
  unfold tri at h1
  rw [← hv, ← hn, ← he] at h1 hR
  rw [← hv] at b1
  rw [← hn] at b2
  rw [← he] at b3
  have H1 := Lib.hid h1
  clear hs hq h1 hv hn he
  rcases b3 with rfl | h3
  · simp only [ne_eq, not_true_eq_false, if_false] at hR
    by_cases hneg : most < 0
    · rw [if_pos (.inl hneg)] at hR
      have HR := Lib.hid hR
      clear hR
      go_enter Try.func10, Try.ntmps10
      go_wp2_with ((with_reducible refine H1.out.mono ?_); rintro e w1 ⟨rfl, rfl⟩)
      go_ret3
      exact ⟨.slice none 0 0, by rw [HR.out]; rfl, by rw [HR.out]; exact Bs.nil _, Below.refl _ _⟩
    · have k1 : IntKind.u64.wrap most = most := wraps_u64 _ (by omega) (by omega)
      by_cases hbig : most < (v : Int)
      · rw [if_pos (.inr hbig)] at hR
        have HR := Lib.hid hR
        clear hR
        go_enter Try.func10, Try.ntmps10
        go_wp2_with ((with_reducible refine H1.out.mono ?_); rintro e w1 ⟨rfl, rfl⟩)
        go_ret3
        exact ⟨.slice none 0 0, by rw [HR.out]; rfl, by rw [HR.out]; exact Bs.nil _, Below.refl _ _⟩
      · rw [if_neg (by omega)] at hR
        have k2 : IntKind.u64.wrap ((b.length : Int) - (n : Int)) = (b.length : Int) - (n : Int) := wraps_u64 _ (by omega) (by omega)
        by_cases hmore : b.length - n < v
        · rw [if_pos hmore] at hR
          have HR := Lib.hid hR
          have k3 : (b.length : Int) - (n : Int) < (v : Int) := by omega
          clear hR hmore
          go_enter Try.func10, Try.ntmps10
          go_wp2_with ((with_reducible refine H1.out.mono ?_); rintro e w1 ⟨rfl, rfl⟩)
          go_ret3
          exact ⟨.slice none 0 0, by rw [HR.out]; rfl, by rw [HR.out]; exact Bs.nil _, Below.refl _ _⟩
        · rw [if_neg hmore] at hR
          have HR := Lib.hid hR
          have k3 : ¬ (b.length : Int) - (n : Int) < (v : Int) := by omega
          have k4 : IntKind.i64.wrap (v : Int) = (v : Int) := wraps_i64 _ (by omega) (by omega)
          have hcut := cut_mid q b.length c n v (by omega)
          have hlen : ((b.drop n).take v).length = v := by rw [List.length_take, List.length_drop]; omega
          have hcl := clone_any ((b.drop n).take v) (cutQ q c n) (c - n) w (mid_sees HS.out hc n v) (cutQ_none q c n HQ.out) (by rw [hlen]; omega)
          rw [hlen] at hcl
          have HC := Lib.hid hcl
          clear hR hmore hcl hlen
          go_enter Try.func10, Try.ntmps10
          go_wp2_with fail
          refine H1.out.mono ?_
          rintro e w1 ⟨rfl, rfl⟩
          go_wp2_with fail
          refine HC.out.mono ?_
          rintro e w1 ⟨s, rfl, hs1, hb1⟩
          have HS1 := Lib.hid hs1
          have HB1 := Lib.hid hb1
          clear hs1 hb1
          go_wp2_with fail
          go_ret3
          exact ⟨s, by rw [HR.out]; rfl, by rw [HR.out]; exact HS1.out, HB1.out⟩
  · have hR' : R = ([], 0, er) := by rw [hR, if_pos (by omega)]
    have HR := Lib.hid hR'
    clear hR hR'
    rcases h3 with rfl | rfl
    all_goals
      go_enter Try.func10, Try.ntmps10
      go_wp2_with ((with_reducible refine H1.out.mono ?_); rintro e w1 ⟨rfl, rfl⟩)
      go_ret3
      exact ⟨.slice none 0 0, by rw [HR.out]; rfl, by rw [HR.out]; exact Bs.nil _, Below.refl _ _⟩
end Go.Proofs.Ytgaphplndpdhaaa
