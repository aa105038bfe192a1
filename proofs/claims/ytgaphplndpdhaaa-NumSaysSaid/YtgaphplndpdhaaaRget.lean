/- Contracts: the document's own Get, GetBytes. Conditions: fewer than 2^46 bytes; a nil slice has no capacity. -/
import Derived.Test.YtgaphplndpdhaaaGetB
import Derived.Test.YtgaphplndpdhaaaRput
namespace Go.Proofs.Ytgaphplndpdhaaa
open Go.RowKit
set_option maxHeartbeats 2000000 in
set_option maxRecDepth 100000 in
theorem rget_any (b : List (BitVec 8)) (q : Option Addr) (c : Nat) (w : World) (hs : Sees w w.heap.size q (b.map u8v)) (hl : b.length < 9223372036854775807) :
    Calls Try.prog 14 #[.slice q b.length c] w fun e w' => e = .returned (tri (getL b)) ∧ w = w' := by
  have HS := Lib.hid hs
  clear hs
  go_enter Try.func14, Try.ntmps14
  go_wp2_with fail
  go_loop [5, 6] (fun v i => ∃ k a : Nat, k ≤ b.length ∧ i = .int .i64 k ∧ v = .int .u64 a ∧ k ≤ 9 ∧ a < 128 ^ k ∧ getL b = getA k a (b.drop k)) (fun _ i => b.length - (intOf i).toNat)
  case atStart => exact ⟨0, 0, by omega, rfl, rfl, by omega, by omega, rfl⟩
  case round =>
    obtain ⟨k, a, hk, rfl, rfl, h9, ha, hg⟩ := hrel
    by_cases hlt : k < b.length
    · obtain ⟨p, rfl, _, hcell⟩ := HS.out (by simp; omega)
      have hx := hcell k _ (at8_of b k hlt)
      rw [drop_at8 b k hlt] at hg
      have hm := (at8 b k).isLt
      have g1 := getA_bad k a (at8 b k) (b.drop (k + 1))
      have g2 := getA_more k a (at8 b k) (b.drop (k + 1))
      have g3 := getA_long k a (at8 b k) (b.drop (k + 1))
      have g4 := getA_end k a (at8 b k) (b.drop (k + 1))
      rw [← hg] at g1 g2 g3 g4
      unfold B at hx
      generalize (at8 b k).toNat = m at *
      have G1 := Lib.hid g1
      have G2 := Lib.hid g2
      have G3 := Lib.hid g3
      have G4 := Lib.hid g4
      clear hg g1 g2 g3 g4 hcell
      have hkb : (k : Int) ≤ 9 := by omega
      by_cases hbad : k = 9 ∧ 1 < m
      · have HG := Lib.hid (G1.out hbad)
        clear G1 G2 G3 G4
        have e9 : ((k : Int) == 9) = true := by rw [beq_iff_eq]; omega
        have k1 : (1 : Int) < (m : Int) := by omega
        clear hbad h9 ha
        go_wp2_with fail
        go_ret3
        exact ⟨by rw [HG.out]; rfl, rfl⟩
      · have hd1 : k = 9 → m % 128 ≤ 1 := fun h => by omega
        obtain ⟨p1, p2, p3⟩ := pow_step k a (m % 128) h9 ha (Nat.mod_lt _ (by omega)) hd1
        have hd2 : (m : Int) % 128 = ((m % 128 : Nat) : Int) := by omega
        have sh := shl7w (m % 128) k p2
        have jo := u64_join k a (m % 128) ha p1
        have hdn : m % 128 < 128 := Nat.mod_lt _ (by omega)
        have hmd : m < 128 → m % 128 = m := fun h => Nat.mod_eq_of_lt h
        obtain ⟨d, hd⟩ : ∃ d, d = m % 128 := ⟨_, rfl⟩
        rw [← hd] at p1 p2 p3 hd2 sh jo hdn hmd
        have G2 : Hid (¬(k = 9 ∧ 1 < m) → 128 ≤ m → getL b = getA (k + 1) (a + d * 128 ^ k) (b.drop (k + 1))) := Lib.hid (by rw [hd]; exact G2.out)
        have G4 : Hid (¬(k = 9 ∧ 1 < m) → ¬128 ≤ m → ¬(m = 0 ∧ 0 < k) → getL b = (a + d * 128 ^ k, k + 1, 0)) := Lib.hid (fun h1 h2 h3 => by rw [hmd (by omega)]; exact G4.out h1 h2 h3)
        clear hd hmd hd1
        generalize d * 128 ^ k = t at *
        generalize a + t = a' at *
        have P3 := Lib.hid p3
        clear p3 p2
        by_cases hmore : 128 ≤ m
        · have HG := Lib.hid (G2.out hbad hmore)
          clear G1 G2 G3 G4
          have e9 : ((k : Int) == 9) = false := by rw [beq_eq_false_iff_ne]; omega
          have hk8 : k ≤ 8 := by omega
          have an : ¬ (m : Int) < 128 := by omega
          clear hbad hmore
          go_wp2_with fail
          go_round
          case rel => exact ⟨k + 1, a', by omega, by go_num, rfl, by omega, P3.out hk8, HG.out⟩
          case measure => simp [intOf]; omega
        · have an : (m : Int) < 128 := by omega
          by_cases hlong : m = 0 ∧ 0 < k
          · have HG := Lib.hid (G3.out hlong)
            clear G1 G2 G3 G4
            have e0 : ((m : Int) == 0) = true := by rw [beq_iff_eq]; omega
            have e1 : (0 : Int) < (k : Int) := by omega
            have e3 : ¬ (1 : Int) < (m : Int) := by omega
            clear hbad hlong hmore P3
            by_cases hk9 : k = 9
            · have e9 : ((k : Int) == 9) = true := by rw [beq_iff_eq]; omega
              clear hk9
              go_wp2_with fail
              go_ret3
              exact ⟨by rw [HG.out]; rfl, rfl⟩
            · have e9 : ((k : Int) == 9) = false := by rw [beq_eq_false_iff_ne]; omega
              clear hk9
              go_wp2_with fail
              go_ret3
              exact ⟨by rw [HG.out]; rfl, rfl⟩
          · have HG := Lib.hid (G4.out hbad hmore hlong)
            clear G1 G2 G3 G4
            by_cases hk9 : k = 9
            · have e9 : ((k : Int) == 9) = true := by rw [beq_iff_eq]; omega
              have e0 : ((m : Int) == 0) = false := by rw [beq_eq_false_iff_ne]; omega
              have e3 : ¬ (1 : Int) < (m : Int) := by omega
              clear hbad hlong hmore P3 hk9
              go_wp2_with fail
              go_ret3
              exact ⟨by rw [HG.out]; rfl, rfl⟩
            · have e9 : ((k : Int) == 9) = false := by rw [beq_eq_false_iff_ne]; omega
              by_cases hm0 : m = 0
              · have e0 : ((m : Int) == 0) = true := by rw [beq_iff_eq]; omega
                have e1 : ¬ (0 : Int) < (k : Int) := by omega
                clear hbad hlong hmore P3 hk9 hm0
                go_wp2_with fail
                go_ret3
                exact ⟨by rw [HG.out]; rfl, rfl⟩
              · have e0 : ((m : Int) == 0) = false := by rw [beq_eq_false_iff_ne]; omega
                clear hbad hlong hmore P3 hk9 hm0
                go_wp2_with fail
                go_ret3
                exact ⟨by rw [HG.out]; rfl, rfl⟩
    · have hkl : k = b.length := by omega
      rw [hkl, List.drop_length, getA_nil] at hg
      have HG := Lib.hid hg
      have k1 : ¬ (k : Int) < (b.length : Int) := by omega
      clear hg hlt hkl
      go_wp2_with fail
      go_ret3
      exact ⟨by rw [HG.out]; rfl, rfl⟩
set_option maxHeartbeats 2000000 in
theorem rgetBytes_any (b : List (BitVec 8)) (q : Option Addr) (c : Nat) (most : Int) (w : World) (hs : Sees w w.heap.size q (b.map u8v)) (hc : b.length ≤ c) (hq : q = none → c = 0) (hl : b.length ≤ 70368744177664)
    (m0 : -9223372036854775808 ≤ most) (m1 : most ≤ 9223372036854775807) :
    Calls Try.prog 15 #[.slice q b.length c, .int .i64 most] w (GaveB w (gbL b most)) := by
  have h1 := rget_any b q c w hs (by omega)
  obtain ⟨b1, b2, b3⟩ := getL_bd b
  have HG : Hid (gbL b most = gbL b most) := Lib.hid rfl
  obtain ⟨R, hR⟩ : ∃ R, R = gbL b most := ⟨_, rfl⟩
  rw [← hR]
  unfold gbL at hR
  have HS := Lib.hid hs
  have HQ := Lib.hid hq
  obtain ⟨v, hv⟩ : ∃ v, v = (getL b).1 := ⟨_, rfl⟩
  obtain ⟨n, hn⟩ : ∃ n, n = (getL b).2.1 := ⟨_, rfl⟩
  obtain ⟨er, he⟩ : ∃ er, er = (getL b).2.2 := ⟨_, rfl⟩
  unfold tri at h1
  rw [← hv, ← hn, ← he] at h1 hR
  rw [← hv] at b1
  rw [← hn] at b2
  rw [← he] at b3
  have H1 := Lib.hid h1
  clear hs hq h1 hv hn he
  rcases b3 with rfl | h3
  · simp only [ne_eq, not_true_eq_false, if_false] at hR
    by_cases hneg : most < 0
    · rw [if_pos (.inl hneg)] at hR
      have HR := Lib.hid hR
      clear hR
      go_enter Try.func15, Try.ntmps15
      go_wp2_with ((with_reducible refine H1.out.mono ?_); rintro e w1 ⟨rfl, rfl⟩)
      go_ret3
      exact ⟨.slice none 0 0, by rw [HR.out]; rfl, by rw [HR.out]; exact Bs.nil _, Below.refl _ _⟩
    · have k1 : IntKind.u64.wrap most = most := wraps_u64 _ (by omega) (by omega)
      by_cases hbig : most < (v : Int)
      · rw [if_pos (.inr hbig)] at hR
        have HR := Lib.hid hR
        clear hR
        go_enter Try.func15, Try.ntmps15
        go_wp2_with ((with_reducible refine H1.out.mono ?_); rintro e w1 ⟨rfl, rfl⟩)
        go_ret3
        exact ⟨.slice none 0 0, by rw [HR.out]; rfl, by rw [HR.out]; exact Bs.nil _, Below.refl _ _⟩
      · rw [if_neg (by omega)] at hR
        have k2 : IntKind.u64.wrap ((b.length : Int) - (n : Int)) = (b.length : Int) - (n : Int) := wraps_u64 _ (by omega) (by omega)
        by_cases hmore : b.length - n < v
        · rw [if_pos hmore] at hR
          have HR := Lib.hid hR
          have k3 : (b.length : Int) - (n : Int) < (v : Int) := by omega
          clear hR hmore
          go_enter Try.func15, Try.ntmps15
          go_wp2_with ((with_reducible refine H1.out.mono ?_); rintro e w1 ⟨rfl, rfl⟩)
          go_ret3
          exact ⟨.slice none 0 0, by rw [HR.out]; rfl, by rw [HR.out]; exact Bs.nil _, Below.refl _ _⟩
        · rw [if_neg hmore] at hR
          have HR := Lib.hid hR
          have k3 : ¬ (b.length : Int) - (n : Int) < (v : Int) := by omega
          have k4 : IntKind.i64.wrap (v : Int) = (v : Int) := wraps_i64 _ (by omega) (by omega)
          have hcut := cut_mid q b.length c n v (by omega)
          have hlen : ((b.drop n).take v).length = v := by rw [List.length_take, List.length_drop]; omega
          have hms := mid_sees HS.out hc n v
          have hmq := cutQ_none q c n HQ.out
          obtain ⟨X, hX⟩ : ∃ X, X = (b.drop n).take v := ⟨_, rfl⟩
          rw [← hX] at hms hlen HR
          have hBe : Below w.heap.size w (w.alloc (.cells #[] 5)) := (Below.refl _ _).alloc (Nat.le_refl _) _
          have HSX := Lib.hid (hms.keep hBe)
          have HO := Lib.hid (empty_own w w.heap.size (Nat.le_refl _))
          have HBe := Lib.hid hBe
          have HMQ := Lib.hid hmq
          have HXL := Lib.hid hlen
          clear hR hmore hlen hX hms hmq hBe
          go_enter Try.func15, Try.ntmps15
          go_wp2_with fail
          refine H1.out.mono ?_
          rintro e w1 ⟨rfl, rfl⟩
          go_wp2_with (at_builtin; refine wpList_append_sees rfl (.tmp 34) (.tmp 41) rfl w.heap.size _ 0 [] rfl HO.out (cutQ q c n) X (c - n) w.heap.size (by rw [HXL.out]; rfl) HMQ.out HSX.out (by rw [HXL.out]; omega) HBe.out.size ?_; intro v1 w1 h1 h2; have H5 := Lib.hid h1; have HB1 := Lib.hid (HBe.out.trans h2); clear h1 h2)
          go_ret3
          refine ⟨v1, by rw [HR.out]; rfl, ?_, HB1.out⟩
          have h := H5.out
          rw [List.nil_append] at h
          rw [HR.out]
          exact Bs.own h
  · have hR' : R = ([], 0, er) := by rw [hR, if_pos (by omega)]
    have HR := Lib.hid hR'
    clear hR hR'
    rcases h3 with rfl | rfl
    all_goals
      go_enter Try.func15, Try.ntmps15
      go_wp2_with ((with_reducible refine H1.out.mono ?_); rintro e w1 ⟨rfl, rfl⟩)
      go_ret3
      exact ⟨.slice none 0 0, by rw [HR.out]; rfl, by rw [HR.out]; exact Bs.nil _, Below.refl _ _⟩
end Go.Proofs.Ytgaphplndpdhaaa
