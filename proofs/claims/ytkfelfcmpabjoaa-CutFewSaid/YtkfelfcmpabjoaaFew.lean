/- The law CutFew returns true: as many pieces as there may be. Condition: the bytes as they came in. -/
import Derived.Test.YtkfelfcmpabjoaaAwake
import Derived.Test.YtkfelfcmpabjoaaOpenR
import Derived.Test.YtkfelfcmpabjoaaCuto
namespace Go.Proofs.Ytkfelfcmpabjoaa
open Go.RowKit
set_option maxHeartbeats 1000000 in
set_option maxRecDepth 100000 in
theorem few_bad (m x d k t : Int) (hok : okI m x d = false) (b : List (BitVec 8)) (q : Option Addr) (c : Nat) (w : World) :
    Calls Try.prog 8 #[ruleV m x d k t, .slice q b.length c] w fun e w' => e = .returned (.bool true) ∧ Below w.heap.size w w' := by
  have HG := Lib.hid (fun w1 => good_any m x d k t w1)
  rw [hok] at HG
  have HA := Lib.hid (fun v => awake_any v)
  have HR := Lib.hid (Has.made' w 25 _ (ruleL m x d k t) rfl)
  have HB1 := Lib.hid ((Below.refl w.heap.size w).alloc (Nat.le_refl _) (.cells (ruleL m x d k t).toArray 25))
  have HZ : Hid ((w.alloc (.cells (ruleL m x d k t).toArray 25)).heap.size = w.heap.size + 1) := Lib.hid (by simp)
  unfold ruleV at HG ⊢
  unfold ruleL at HG HR HB1 HZ ⊢
  go_enter Try.func8, Try.ntmps8
  go_wp2_with fail
  refine (HA.out _).mono ?_
  rintro e w2 ⟨rfl, hb⟩
  have HB2 := Lib.hid (HB1.out.trans (hb.mono (by have := HZ.out; omega)))
  have HR2 := Lib.hid (HR.out.keep hb (by have := HZ.out; omega))
  have c0 := HR2.out.cellv (i := 0) rfl
  have c1 := HR2.out.cellv (i := 1) rfl
  have c2 := HR2.out.cellv (i := 2) rfl
  have c3 := HR2.out.cellv (i := 3) rfl
  have c4 := HR2.out.cellv (i := 4) rfl
  clear hb HB1 HR HZ HA
  go_wp2_with fail
  refine (HG.out _).mono ?_
  rintro e w3 ⟨rfl, hb⟩
  have HB3 := Lib.hid (HB2.out.trans (hb.mono HB2.out.size))
  clear hb HB2
  go_wp2_with fail
  go_ret
  exact ⟨rfl, HB3.out⟩
set_option maxHeartbeats 1000000 in
set_option maxRecDepth 100000 in
theorem few_long (m x d k t : Int) (hok : okI m x d = true) (b : List (BitVec 8)) (h : 400 < b.length) (q : Option Addr) (c : Nat) (w : World) :
    Calls Try.prog 8 #[ruleV m x d k t, .slice q b.length c] w fun e w' => e = .returned (.bool true) ∧ Below w.heap.size w w' := by
  have k0 : (400 : Int) < (b.length : Int) := by omega
  have HG := Lib.hid (fun w1 => good_any m x d k t w1)
  rw [hok] at HG
  have HA := Lib.hid (fun v => awake_any v)
  have HR := Lib.hid (Has.made' w 25 _ (ruleL m x d k t) rfl)
  have HB1 := Lib.hid ((Below.refl w.heap.size w).alloc (Nat.le_refl _) (.cells (ruleL m x d k t).toArray 25))
  have HZ : Hid ((w.alloc (.cells (ruleL m x d k t).toArray 25)).heap.size = w.heap.size + 1) := Lib.hid (by simp)
  unfold ruleV at HG ⊢
  unfold ruleL at HG HR HB1 HZ ⊢
  go_enter Try.func8, Try.ntmps8
  go_wp2_with fail
  refine (HA.out _).mono ?_
  rintro e w2 ⟨rfl, hb⟩
  have HB2 := Lib.hid (HB1.out.trans (hb.mono (by have := HZ.out; omega)))
  have HR2 := Lib.hid (HR.out.keep hb (by have := HZ.out; omega))
  have c0 := HR2.out.cellv (i := 0) rfl
  have c1 := HR2.out.cellv (i := 1) rfl
  have c2 := HR2.out.cellv (i := 2) rfl
  have c3 := HR2.out.cellv (i := 3) rfl
  have c4 := HR2.out.cellv (i := 4) rfl
  clear hb HB1 HR HZ HA
  go_wp2_with fail
  refine (HG.out _).mono ?_
  rintro e w3 ⟨rfl, hb⟩
  have HB3 := Lib.hid (HB2.out.trans (hb.mono HB2.out.size))
  clear hb HB2
  go_wp2_with fail
  go_ret
  exact ⟨rfl, HB3.out⟩
set_option maxHeartbeats 2000000 in
set_option maxRecDepth 100000 in
theorem few_main (r : Rl) (hr : r.Ok) (b : List (BitVec 8)) (hl : b.length ≤ 400) (q : Option Addr) (c : Nat) (w : World) (hc : b.length ≤ c) (hs : Sees w w.heap.size q (b.map u8v)) :
    Calls Try.prog 8 #[r.val, .slice q b.length c] w fun e w' => e = .returned (.bool true) ∧ Below w.heap.size w w' := by
  have k0 : ¬ (400 : Int) < (b.length : Int) := by omega
  have HN := Lib.hid (fun v (hb : Below w.heap.size w v) => ends_good r hr b q c v hc (by omega) ((hs.keep hb).more hb.size))
  have HLT := Lib.hid (endsL_lt hr b)
  have HEM := Lib.hid (endsL_empty hr b)
  have HLA := Lib.hid (endsL_last hr b)
  have HMO := Lib.hid (endsL_most hr b)
  have HLE := Lib.hid (endsL_least hr b)
  have HOK := Lib.hid hr
  have hll : (endsL r 0 b).length ≤ 400 := Nat.le_trans (endsL_count hr b) hl
  have hok := okI_of hr
  generalize endsL r 0 b = L at *
  have HG := Lib.hid (fun w1 => good_any r.mn r.mx r.wd r.mask r.want w1)
  rw [hok] at HG
  have HA := Lib.hid (fun v => awake_any v)
  have HR := Lib.hid (Has.made' w 25 _ (ruleL r.mn r.mx r.wd r.mask r.want) rfl)
  have HB1 := Lib.hid ((Below.refl w.heap.size w).alloc (Nat.le_refl _) (.cells (ruleL r.mn r.mx r.wd r.mask r.want).toArray 25))
  have HZ : Hid ((w.alloc (.cells (ruleL r.mn r.mx r.wd r.mask r.want).toArray 25)).heap.size = w.heap.size + 1) := Lib.hid (by simp)
  clear hr hok hs hc
  unfold Rl.val at HN ⊢
  unfold ruleV at HN
  unfold ruleV at HG ⊢
  unfold ruleL at HG HR HB1 HZ ⊢
  go_enter Try.func8, Try.ntmps8
  go_wp2_with fail
  refine (HA.out _).mono ?_
  rintro e w2 ⟨rfl, hb⟩
  have HB2 := Lib.hid (HB1.out.trans (hb.mono (by have := HZ.out; omega)))
  have HR2 := Lib.hid (HR.out.keep hb (by have := HZ.out; omega))
  have c0 := HR2.out.cellv (i := 0) rfl
  have c1 := HR2.out.cellv (i := 1) rfl
  have c2 := HR2.out.cellv (i := 2) rfl
  have c3 := HR2.out.cellv (i := 3) rfl
  have c4 := HR2.out.cellv (i := 4) rfl
  clear hb HB1 HR HZ HA
  go_wp2_with fail
  refine (HG.out _).mono ?_
  rintro e w3 ⟨rfl, hb⟩
  have HB3 := Lib.hid (HB2.out.trans (hb.mono HB2.out.size))
  have HR3 := Lib.hid (HR2.out.keep hb HR2.out.lt)
  clear hb HB2 HR2 c0 c1 c2 c3 c4 HG
  have c0 := HR3.out.cellv (i := 0) rfl
  have c1 := HR3.out.cellv (i := 1) rfl
  have c2 := HR3.out.cellv (i := 2) rfl
  have c3 := HR3.out.cellv (i := 3) rfl
  have c4 := HR3.out.cellv (i := 4) rfl
  go_wp2_with fail
  refine (HN.out _ HB3.out).mono ?_
  rintro e w4 ⟨v, rfl, ⟨qe, ce, rfl, hse⟩, hb⟩
  have HB4 := Lib.hid (HB3.out.trans (hb.mono HB3.out.size))
  have HR4 := Lib.hid (HR3.out.keep hb HR3.out.lt)
  have HSE := Lib.hid hse
  clear hb hse HB3 HR3 HN c0 c1 c2 c3 c4
  go_wp2_with fail
  go_loop [7] (fun vi => ∃ i : Nat, i ≤ L.length ∧ vi = .int .i64 i) (fun vi => L.length - (intOf vi).toNat)
  case atStart => exact ⟨0, by omega, rfl⟩
  case round =>
    obtain ⟨i, hi, rfl⟩ := hrel
    by_cases hlt : i < L.length
    · obtain ⟨ad, rfl, _, hcell⟩ := HSE.out.get (by rw [List.length_map]; omega)
      have ci := hcell i (i64n L[i]) (by rw [List.getElem?_map, List.getElem?_eq_getElem hlt]; rfl)
      unfold i64n at ci
      obtain ⟨g1, g2, _⟩ := HLT.out i hlt
      have ke2 : ¬ (b.length : Int) < (L[i] : Int) := by omega
      by_cases h0 : i = 0
      · subst h0
        have ca : ad.add 0 = ad := by simp [Addr.add]
        rw [ca] at ci
        have ke1 : ¬ (L[0] : Int) ≤ 0 := by omega
        have k3 : (0 : Int) < (L.length : Int) := by omega
        clear hcell g1 g2 ca
        generalize L[0] = e at *
        go_wp2_with fail
        go_round
        case rel => exact ⟨1, by omega, rfl⟩
        case measure => simp [intOf]; omega
      · have k1 : (0 : Int) < (i : Int) := by omega
        have kw : IntKind.i64.wrap ((i : Int) - 1) = ((i - 1 : Nat) : Int) := by rw [IntWalk.i64_in _ (by omega)]; omega
        have hb := before_succ L (i - 1) (by omega)
        rw [show i - 1 + 1 = i by omega] at hb
        rw [hb] at g1
        have ci1 := hcell (i - 1) (i64n L[i - 1]) (by rw [List.getElem?_map, List.getElem?_eq_getElem (by omega)]; rfl)
        unfold i64n at ci1
        have ke1 : ¬ (L[i] : Int) ≤ (L[i - 1] : Int) := by omega
        have hj : i - 1 < L.length := by omega
        clear hcell g1 g2 hb
        generalize L[i] = e at *
        generalize L[i - 1] = e1 at *
        obtain ⟨j, hjj⟩ : ∃ j, j = i - 1 := ⟨_, rfl⟩
        rw [← hjj] at ci1 kw hj
        clear hjj
        go_wp2_with fail
        go_round
        case rel => exact ⟨i + 1, by omega, by go_num⟩
        case measure => simp [intOf]; omega
    · have hil : i = L.length := by omega
      subst hil
      have c0 := HR4.out.cellv (i := 0) rfl
      have c1 := HR4.out.cellv (i := 1) rfl
      have k3 : ¬ ((L.length : Int) < (L.length : Int)) := by omega
      have g1 := HOK.out.w5
      have g2 := HOK.out.w4
      have hp1 : L.length * r.mx ≤ 400 * 65536 := Nat.mul_le_mul hll g1
      have hp2 : (L.length - 1) * r.mn ≤ 400 * 65536 := Nat.mul_le_mul (by omega) (by omega)
      have hmo := HMO.out L.length (Nat.le_refl _)
      rw [HLA.out] at hmo
      have kp : IntKind.i64.wrap ((L.length : Int) * (r.mx : Int)) = ((L.length * r.mx : Nat) : Int) := by rw [← Int.natCast_mul, IntWalk.i64_in _ (by omega)]
      have kq : IntKind.i64.wrap (((L.length - 1 : Nat) : Int) * (r.mn : Int)) = (((L.length - 1) * r.mn : Nat) : Int) := by rw [← Int.natCast_mul, IntWalk.i64_in _ (by omega)]
      have kg : (b.length : Int) ≤ ((L.length * r.mx : Nat) : Int) := by omega
      by_cases h0 : L.length = 0
      · have hb0 := HEM.out.1 h0
        have e1 : ((L.length : Int) == 0) = true := by rw [h0]; rfl
        have e2 : ((b.length : Int) == 0) = true := by rw [hb0]; rfl
        have e3 : (L.length : Int) < 2 := by omega
        clear hlt hi h0 hb0 kq hp1 hp2 hmo
        generalize L.length * r.mx = P1 at *
        go_wp2_with fail
        go_ret
        exact ⟨rfl, HB4.out⟩
      · have hb0 : b.length ≠ 0 := fun h => h0 (HEM.out.2 h)
        have e1 : ((L.length : Int) == 0) = false := by rw [beq_eq_false_iff_ne]; omega
        have e2 : ((b.length : Int) == 0) = false := by rw [beq_eq_false_iff_ne]; omega
        have kw : IntKind.i64.wrap ((L.length : Int) - 1) = ((L.length - 1 : Nat) : Int) := by rw [IntWalk.i64_in _ (by omega)]; omega
        obtain ⟨ad, rfl, _, hcell⟩ := HSE.out.get (by rw [List.length_map]; omega)
        have ci := hcell (L.length - 1) (i64n L[L.length - 1]) (by rw [List.getElem?_map, List.getElem?_eq_getElem (by omega)]; rfl)
        unfold i64n at ci
        have hbf := before_succ L (L.length - 1) (by omega)
        rw [show L.length - 1 + 1 = L.length by omega, HLA.out] at hbf
        rw [← hbf] at ci
        have hj : L.length - 1 < L.length := by omega
        have hle := HLE.out (L.length - 1) (by omega)
        obtain ⟨u1, u2, _⟩ := HLT.out (L.length - 1) (by omega)
        have kh : (((L.length - 1) * r.mn : Nat) : Int) ≤ (b.length : Int) := by omega
        clear hcell hbf hle u1 u2 hlt hi h0 hb0 hp1 hp2 hmo
        generalize L.length * r.mx = P1 at *
        generalize (L.length - 1) * r.mn = P2 at *
        obtain ⟨n1, hn1⟩ : ∃ n1, n1 = L.length - 1 := ⟨_, rfl⟩
        rw [← hn1] at ci kw hj kq
        clear hn1
        by_cases h2 : L.length < 2
        · have e3 : (L.length : Int) < 2 := by omega
          clear h2
          go_wp2_with fail
          go_ret
          exact ⟨rfl, HB4.out⟩
        · have e3 : ¬ (L.length : Int) < 2 := by omega
          clear h2
          go_wp2_with fail
          go_ret
          exact ⟨rfl, HB4.out⟩
theorem few_any (m x d k t : Int) (hk : 0 ≤ k ∧ k ≤ 18446744073709551615) (ht : 0 ≤ t ∧ t ≤ 18446744073709551615) (b : List (BitVec 8)) (q : Option Addr) (c : Nat) (w : World) (hc : b.length ≤ c) (hs : Sees w w.heap.size q (b.map u8v)) :
    Calls Try.prog 8 #[ruleV m x d k t, .slice q b.length c] w fun e w' => e = .returned (.bool true) ∧ Below w.heap.size w w' := by
  cases hok : okI m x d with
  | false => exact few_bad m x d k t hok b q c w
  | true =>
    by_cases hl : 400 < b.length
    · exact few_long m x d k t hok b hl q c w
    · obtain ⟨r, hr, he⟩ := rule_nat m x d k t hk ht hok
      rw [he]
      exact few_main r hr b (by omega) q c w hc hs
end Go.Proofs.Ytkfelfcmpabjoaa
