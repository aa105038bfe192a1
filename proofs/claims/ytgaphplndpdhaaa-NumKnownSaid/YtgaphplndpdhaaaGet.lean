/- Contract: num.Get. Condition: fewer than 2^63 bytes. -/
import Derived.Test.YtgaphplndpdhaaaPut
namespace Go.Proofs.Ytgaphplndpdhaaa
open Go.RowKit
/-- What Get hands back: a number, how many bytes, an error. -/
def tri (r : Nat × Nat × Nat) : Value := .tuple #[.int .u64 (r.1 : Int), .int .i64 (r.2.1 : Int), .int .i64 (r.2.2 : Int)]
theorem pow_step (k a d : Nat) (hk : k ≤ 9) (ha : a < 128 ^ k) (hd : d < 128) (h9 : k = 9 → d ≤ 1) :
    a + d * 128 ^ k < 18446744073709551616 ∧ d * 128 ^ k < 18446744073709551616 ∧ (k ≤ 8 → a + d * 128 ^ k < 128 ^ (k + 1)) := by
  by_cases h : k = 9
  · subst h
    have h1 : (128 : Nat) ^ 9 = 9223372036854775808 := by decide +kernel
    have := h9 rfl
    rw [h1] at ha ⊢
    omega
  · have h1 : (128 : Nat) ^ (k + 1) ≤ 128 ^ 9 := Nat.pow_le_pow_right (by omega) (by omega)
    have h2 : (128 : Nat) ^ 9 = 9223372036854775808 := by decide +kernel
    have h3 : d * 128 ^ k ≤ 127 * 128 ^ k := Nat.mul_le_mul_right _ (by omega)
    rw [Nat.pow_succ] at h1 ⊢
    omega
set_option maxHeartbeats 1000000 in
theorem get_any (b : List (BitVec 8)) (q : Option Addr) (c : Nat) (w : World) (hs : Sees w w.heap.size q (b.map u8v)) (hl : b.length < 9223372036854775807) :
    Calls Try.prog 9 #[.slice q b.length c] w fun e w' => e = .returned (tri (getL b)) ∧ w = w' := by
  have HS := Lib.hid hs
  clear hs
  go_enter Try.func9, Try.ntmps9
  go_wp2_with fail
  go_loop [2, 9] (fun v i => ∃ k a : Nat, k ≤ b.length ∧ i = .int .i64 k ∧ v = .int .u64 a ∧ k ≤ 9 ∧ a < 128 ^ k ∧ getL b = getA k a (b.drop k)) (fun _ i => b.length - (intOf i).toNat)
  case atStart => exact ⟨0, 0, by omega, rfl, rfl, by omega, by omega, rfl⟩
  case round =>
    obtain ⟨k, a, hk, rfl, rfl, h9, ha, hg⟩ := hrel
    by_cases hlt : k < b.length
    · obtain ⟨p, rfl, _, hcell⟩ := HS.out (by simp; omega)
      have hx := hcell k _ (at8_of b k hlt)
      rw [drop_at8 b k hlt] at hg
      have hm := (at8 b k).isLt
      have g1 := getA_bad k a (at8 b k) (b.drop (k + 1))
      have g2 := getA_more k a (at8 b k) (b.drop (k + 1))
      have g3 := getA_long k a (at8 b k) (b.drop (k + 1))
      have g4 := getA_end k a (at8 b k) (b.drop (k + 1))
      rw [← hg] at g1 g2 g3 g4
      unfold B at hx
      generalize (at8 b k).toNat = m at *
      have G1 := Lib.hid g1
      have G2 := Lib.hid g2
      have G3 := Lib.hid g3
      have G4 := Lib.hid g4
      clear hg g1 g2 g3 g4 hcell
      have hkb : (k : Int) ≤ 9 := by omega
      by_cases hbad : k = 9 ∧ 1 < m
      · have HG := Lib.hid (G1.out hbad)
        clear G1 G2 G3 G4
        have e9 : ((k : Int) == 9) = true := by rw [beq_iff_eq]; omega
        have k1 : (1 : Int) < (m : Int) := by omega
        clear hbad h9 ha
        go_wp2_with fail
        go_ret3
        exact ⟨by rw [HG.out]; rfl, rfl⟩
      · have hd1 : k = 9 → m % 128 ≤ 1 := fun h => by omega
        obtain ⟨p1, p2, p3⟩ := pow_step k a (m % 128) h9 ha (Nat.mod_lt _ (by omega)) hd1
        have hd2 := andNot128 m (by omega)
        have sh := shl7w (m % 128) k p2
        have jo := u64_join k a (m % 128) ha p1
        have an := u8_and128 m (by omega)
        have hdn : m % 128 < 128 := Nat.mod_lt _ (by omega)
        have hmd : m < 128 → m % 128 = m := fun h => Nat.mod_eq_of_lt h
        obtain ⟨d, hd⟩ : ∃ d, d = m % 128 := ⟨_, rfl⟩
        rw [← hd] at p1 p2 p3 hd2 sh jo hdn hmd
        have G2 : Hid (¬(k = 9 ∧ 1 < m) → 128 ≤ m → getL b = getA (k + 1) (a + d * 128 ^ k) (b.drop (k + 1))) := Lib.hid (by rw [hd]; exact G2.out)
        have G4 : Hid (¬(k = 9 ∧ 1 < m) → ¬128 ≤ m → ¬(m = 0 ∧ 0 < k) → getL b = (a + d * 128 ^ k, k + 1, 0)) := Lib.hid (fun h1 h2 h3 => by rw [hmd (by omega)]; exact G4.out h1 h2 h3)
        clear hd hmd hd1
        generalize d * 128 ^ k = t at *
        generalize a + t = a' at *
        have P3 := Lib.hid p3
        clear p3 p2
        by_cases hmore : 128 ≤ m
        · have HG := Lib.hid (G2.out hbad hmore)
          clear G1 G2 G3 G4
          have e9 : ((k : Int) == 9) = false := by rw [beq_eq_false_iff_ne]; omega
          have hk8 : k ≤ 8 := by omega
          rw [show m / 128 * 128 = 128 by omega] at an
          clear hbad hmore
          go_wp2_with fail
          go_round
          case rel => exact ⟨k + 1, a', by omega, by go_num, rfl, by omega, P3.out hk8, HG.out⟩
          case measure => simp [intOf]; omega
        · rw [show m / 128 * 128 = 0 by omega] at an
          by_cases hlong : m = 0 ∧ 0 < k
          · have HG := Lib.hid (G3.out hlong)
            clear G1 G2 G3 G4
            have e0 : ((m : Int) == 0) = true := by rw [beq_iff_eq]; omega
            have e1 : (0 : Int) < (k : Int) := by omega
            have e3 : ¬ (1 : Int) < (m : Int) := by omega
            clear hbad hlong hmore P3
            go_wp2_with fail
            all_goals
              go_ret3
              exact ⟨by rw [HG.out]; rfl, rfl⟩
          · have HG := Lib.hid (G4.out hbad hmore hlong)
            clear G1 G2 G3 G4
            by_cases hk9 : k = 9
            · have e9 : ((k : Int) == 9) = true := by rw [beq_iff_eq]; omega
              have e0 : ((m : Int) == 0) = false := by rw [beq_eq_false_iff_ne]; omega
              have e3 : ¬ (1 : Int) < (m : Int) := by omega
              clear hbad hlong hmore P3 hk9
              go_wp2_with fail
              go_ret3
              exact ⟨by rw [HG.out]; rfl, rfl⟩
            · have e9 : ((k : Int) == 9) = false := by rw [beq_eq_false_iff_ne]; omega
              by_cases hm0 : m = 0
              · have e0 : ((m : Int) == 0) = true := by rw [beq_iff_eq]; omega
                have e1 : ¬ (0 : Int) < (k : Int) := by omega
                clear hbad hlong hmore P3 hk9 hm0
                go_wp2_with fail
                go_ret3
                exact ⟨by rw [HG.out]; rfl, rfl⟩
              · have e0 : ((m : Int) == 0) = false := by rw [beq_eq_false_iff_ne]; omega
                clear hbad hlong hmore P3 hk9 hm0
                go_wp2_with fail
                go_ret3
                exact ⟨by rw [HG.out]; rfl, rfl⟩
    · have hkl : k = b.length := by omega
      rw [hkl, List.drop_length, getA_nil] at hg
      have HG := Lib.hid hg
      have k1 : ¬ (k : Int) < (b.length : Int) := by omega
      clear hg hlt hkl
      go_wp2_with fail
      go_ret3
      exact ⟨by rw [HG.out]; rfl, rfl⟩
end Go.Proofs.Ytgaphplndpdhaaa
