/- Contracts: the document's own Next. Condition: the text is shorter than 2^63 bytes, and no longer than its room. -/
import Derived.Test.YtkfelfcmpabjoaaNext
import Derived.Test.YtkfelfcmpabjoaaOrg
namespace Go.Proofs.Ytkfelfcmpabjoaa
open Go.RowKit
theorem lastN_take (d n : Nat) (b : List (BitVec 8)) (h : n ≤ b.length) : lastN d (b.take n) = (b.take n).drop (n - d) := by
  unfold lastN; rw [List.length_take, Nat.min_eq_left h]
set_option maxHeartbeats 1000000 in
set_option maxRecDepth 100000 in
theorem rnext_bad (m x d k t : Int) (h : okI m x d = false) (b : List (BitVec 8)) (q : Option Addr) (c : Nat) (w : World) :
    Calls Try.prog 18 #[ruleV m x d k t, .slice q b.length c] w fun e w' => e = .returned (.int .i64 0) ∧ Below w.heap.size w w' := by
  have HG := Lib.hid (fun w1 => rgood_any m x d k t w1)
  rw [h] at HG
  unfold ruleV ruleL at HG ⊢
  go_enter Try.func18, Try.ntmps18
  go_wp2_with ((with_reducible refine (HG.out _).mono ?_); rintro e w4 ⟨rfl, hB⟩; have HB := Lib.hid hB; clear hB)
  go_ret
  exact ⟨rfl, ((Below.refl _ _).alloc (Nat.le_refl _) _).trans (HB.out.mono (by simp))⟩
set_option maxHeartbeats 2000000 in
set_option maxRecDepth 100000 in
theorem rnext_good (r : Rl) (hr : r.Ok) (b : List (BitVec 8)) (q : Option Addr) (c : Nat) (w : World) (hc : b.length ≤ c) (hl : b.length < 9223372036854775807) (hs : Sees w w.heap.size q (b.map u8v)) :
    Calls Try.prog 18 #[r.val, .slice q b.length c] w fun e w' => e = .returned (.int .i64 ((nx r b : Nat) : Int)) ∧ Below w.heap.size w w' := by
  have hok := okI_of hr
  obtain ⟨m, x, d, k, t⟩ := r
  obtain ⟨o1, o2, o3, o4, o5, o6, o7⟩ := hr
  simp only at o1 o2 o3 o4 o5 o6 o7 hok ⊢
  have HG := Lib.hid (fun w1 => rgood_any m x d k t w1)
  rw [hok] at HG
  obtain ⟨N, hN⟩ : ∃ N, N = nx ⟨m, x, d, k, t⟩ b := ⟨_, rfl⟩
  have hN2 : scan (hit ⟨m, x, d, k, t⟩ b) (min x b.length) (min x b.length + 1 - m) m = N := hN.symm
  rw [← hN]
  unfold Rl.val
  simp only
  obtain ⟨T, hT⟩ : ∃ T, T = min x b.length := ⟨_, rfl⟩
  rw [← hT] at hN2
  have HTT : Hid (T ≤ x ∧ T ≤ b.length ∧ (T = x ∨ T = b.length)) := Lib.hid (by omega)
  have HS := Lib.hid hs
  have HC := Lib.hid hc
  have HN := Lib.hid hN2
  have HRR := Lib.hid (fun (b : List (BitVec 8)) (q : Option Addr) (c : Nat) (v : World) (hs : Sees v v.heap.size q (b.map u8v)) (hl : b.length < 9223372036854775807) => rroll_any b q c v hs hl)
  have HR := Lib.hid (Has.made' w 35 _ (ruleL m x d k t) rfl)
  have HB1 := Lib.hid ((Below.refl w.heap.size w).alloc (Nat.le_refl _) (.cells (ruleL m x d k t).toArray 35))
  have HZ : Hid ((w.alloc (.cells (ruleL m x d k t).toArray 35)).heap.size = w.heap.size + 1) := Lib.hid (by simp)
  unfold ruleV at HG ⊢
  unfold ruleL at HG HR HB1 HZ ⊢
  have HLL := Lib.hid hl
  clear hs hc hok hN hN2 hT
  go_enter Try.func18, Try.ntmps18
  go_upto_region 3 with ((with_reducible refine (HG.out _).mono ?_); rintro e w2 ⟨rfl, hB⟩; have HB := Lib.hid hB; clear hB)
  have HB2 := Lib.hid (HB1.out.trans (HB.out.mono HB1.out.size))
  have HR2 := Lib.hid (HR.out.keep HB.out (by have := HZ.out; omega))
  have c0 := HR2.out.cellv (i := 0) rfl
  clear HB HB1 HR HZ HG
  go_wp2_with fail
  go_loopw [5] (fun vn wr => ∃ n : Nat, n ≤ 65537 ∧ m ≤ n ∧ vn = .int .i64 n ∧ Has wr w.heap.size 35 [.int .i64 (m : Int), .int .i64 (x : Int), .int .i64 (d : Int), .int .u64 (k : Int), .int .u64 (t : Int)] ∧ Below w.heap.size w wr ∧ scan (hit ⟨m, x, d, k, t⟩ b) T (T + 1 - n) n = N) (fun vn _ => 65538 - (intOf vn).toNat)
  case atStart => exact ⟨m, by omega, Nat.le_refl _, rfl, HR2.out, HB2.out, HN.out⟩
  case round =>
    clear HR2 HB2 c0
    rename_i wr
    obtain ⟨n, hn, hmn, rfl, hR, hB, hsc⟩ := hrel
    have HHR := Lib.hid hR
    have HB := Lib.hid hB
    have c0 := hR.cellv (i := 0) rfl
    have c1 := hR.cellv (i := 1) rfl
    have HSC := Lib.hid hsc
    clear hR hB hsc
    by_cases h1 : n ≤ T
    · have y1 : (n : Int) ≤ (x : Int) := by have := HTT.out; omega
      have y2 : (n : Int) ≤ (b.length : Int) := by have := HTT.out; omega
      have hnb : n ≤ b.length := by have := HTT.out; omega
      have hx : n ≤ 65536 := by have := HTT.out; omega
      have kw : IntKind.i64.wrap ((n : Int) - (d : Int)) = ((n - d : Nat) : Int) := by rw [IntWalk.i64_in _ (by omega)]; omega
      have hcm := cut_mid q b.length c (n - d) n (by omega) (by have := HC.out; omega)
      have hml := mid_length b (n - d) n hnb
      have hnd : n - (n - d) = d := by omega
      rw [hnd] at hcm hml
      have H1 := Lib.hid (fun v hv => HRR.out ((b.take n).drop (n - d)) (cutQ q c (n - d)) (c - (n - d)) v hv (by rw [hml]; omega))
      rw [hml] at H1
      have HSM := Lib.hid ((HS.out.mid (f := n - d) (t := n) HC.out))
      have hh : hit ⟨m, x, d, k, t⟩ b n = ((rsum ((b.take n).drop (n - d)) &&& k) == t) := by unfold hit; rw [lastN_take d n b hnb]
      have hsl : rsum ((b.take n).drop (n - d)) < 18446744073709551616 := Nat.lt_trans (rsum_lt _) (by omega)
      have ka := bits_and_u64_nat _ k hsl o6
      generalize (b.take n).drop (n - d) = bb at *
      generalize cutQ q c (n - d) = qm at *
      generalize c - (n - d) = cm at *
      generalize n - d = f at *
      generalize rsum bb = s at *
      have HIT := Lib.hid h1
      have HLB := Lib.hid hnb
      clear hml hnd hsl h1 hnb
      by_cases hv : (s &&& k) = t
      · have e1 : (((s &&& k : Nat) : Int) == (t : Int)) = true := by rw [hv]; simp
        have HRES : Hid (n = N) := Lib.hid (by rw [← HSC.out, scan_hit _ _ _ HIT.out (by rw [hh, hv]; simp)])
        generalize (s &&& k) = a at *
        clear HSC hh
        clear HRR HS HC HN
        go_wp2_with fail
        clear c0 c1
        try simp only [List.append_eq, List.cons_append, List.nil_append]
        refine wp_region_org [(0, true), (1, true), (2, true), (3, true), (4, true), (5, true), (6, true), (8, true), (9, true), (11, true), (12, true), (7, false), (10, true), (13, true)] (by kernel_rfl) (by kernel_rfl) (by kernel_rfl) ?_
        replace HHR := Lib.hid HHR.out.drew
        replace HB := Lib.hid HB.out.drew
        generalize wr.drew = w3 at *
        simp only [pickOrs, List.getElem?_cons_zero, List.getElem?_cons_succ]
        refine org_pure (v := ?_) (by kernel_rfl) ?_ ?_
        rotate_left
        · intro w' hw; clear hw; go_simp; try with_reducible rfl
        try simp only [Act.put, List.setIfInBounds_toArray, List.set_cons_zero, List.set_cons_succ]
        refine org_pure (v := ?_) (by kernel_rfl) ?_ ?_
        rotate_left
        · intro w' hw; clear hw; go_simp; try with_reducible rfl
        try simp only [Act.put, List.setIfInBounds_toArray, List.set_cons_zero, List.set_cons_succ]
        refine org_pure (v := ?_) (by kernel_rfl) ?_ ?_
        rotate_left
        · intro w' hw; clear hw; go_simp; try with_reducible rfl
        try simp only [Act.put, List.setIfInBounds_toArray, List.set_cons_zero, List.set_cons_succ]
        refine org_pure (v := ?_) (by kernel_rfl) ?_ ?_
        rotate_left
        · intro w' hw; have cx := Has.cellv (i := 2) (HHR.out.keep hw HHR.out.lt) rfl; clear hw; go_simp; try with_reducible rfl
        try simp only [Act.put, List.setIfInBounds_toArray, List.set_cons_zero, List.set_cons_succ]
        refine org_pure (v := ?_) (by kernel_rfl) ?_ ?_
        rotate_left
        · intro w' hw; clear hw; go_simp; try with_reducible rfl
        try simp only [Act.put, List.setIfInBounds_toArray, List.set_cons_zero, List.set_cons_succ]
        refine org_pure (v := ?_) (by kernel_rfl) ?_ ?_
        rotate_left
        · intro w' hw; clear hw; go_simp; try with_reducible rfl
        try simp only [Act.put, List.setIfInBounds_toArray, List.set_cons_zero, List.set_cons_succ]
        refine org_pure (v := ?_) (by kernel_rfl) ?_ ?_
        rotate_left
        · intro w' hw; clear hw; go_simp; try with_reducible rfl
        try simp only [Act.put, List.setIfInBounds_toArray, List.set_cons_zero, List.set_cons_succ]
        refine org_pure (v := ?_) (by kernel_rfl) ?_ ?_
        rotate_left
        · intro w' hw; clear hw; go_simp; try with_reducible rfl
        try simp only [Act.put, List.setIfInBounds_toArray, List.set_cons_zero, List.set_cons_succ]
        refine org_pure (v := ?_) (by kernel_rfl) ?_ ?_
        rotate_left
        · intro w' hw; have cx := Has.cellv (i := 3) (HHR.out.keep hw HHR.out.lt) rfl; clear hw; go_simp; try with_reducible rfl
        try simp only [Act.put, List.setIfInBounds_toArray, List.set_cons_zero, List.set_cons_succ]
        refine org_pure (v := ?_) (by kernel_rfl) ?_ ?_
        rotate_left
        · intro w' hw; clear hw; go_simp; try with_reducible rfl
        try simp only [Act.put, List.setIfInBounds_toArray, List.set_cons_zero, List.set_cons_succ]
        refine org_pure (v := ?_) (by kernel_rfl) ?_ ?_
        rotate_left
        · intro w' hw; have cx := Has.cellv (i := 4) (HHR.out.keep hw HHR.out.lt) rfl; clear hw; go_simp; try with_reducible rfl
        try simp only [Act.put, List.setIfInBounds_toArray, List.set_cons_zero, List.set_cons_succ]
        refine org_step (by kernel_rfl) (fun K hK => ?_)
        go_wp2_with fail
        refine (H1.out w3 ((HSM.out.keep HB.out).more HB.out.size)).mono ?_
        rintro e w4 ⟨rfl, hb⟩
        have HX : Hid (Ext w3 w4) := Lib.hid hb
        have HHR4 := Lib.hid (HHR.out.keep hb HHR.out.lt)
        have HB4 := Lib.hid (HB.out.trans (hb.mono HB.out.size))
        clear hb H1 HB HHR
        go_wp2_with fail
        refine ⟨HX.out, ?_⟩
        try simp only [Act.put, List.setIfInBounds_toArray, List.set_cons_zero, List.set_cons_succ]
        refine org_pure (v := ?_) (by kernel_rfl) ?_ ?_
        rotate_left
        · intro w' hw; clear hw; go_simp; try with_reducible rfl
        try simp only [Act.put, List.setIfInBounds_toArray, List.set_cons_zero, List.set_cons_succ]
        refine org_pure (v := ?_) (by kernel_rfl) ?_ ?_
        rotate_left
        · intro w' hw; clear hw; go_simp; try with_reducible rfl
        try simp only [Act.put, List.setIfInBounds_toArray, List.set_cons_zero, List.set_cons_succ]
        refine org_nil ?_
        go_wp2_with fail
        go_ret
        exact ⟨by rw [← HRES.out]; rfl, HB4.out⟩
      · have e1 : (((s &&& k : Nat) : Int) == (t : Int)) = false := by rw [beq_eq_false_iff_ne]; omega
        have HRES : Hid (scan (hit ⟨m, x, d, k, t⟩ b) T (T + 1 - (n + 1)) (n + 1) = N) := Lib.hid (by rw [← HSC.out, scan_miss _ _ _ HIT.out (by rw [hh, beq_eq_false_iff_ne]; exact hv)])
        generalize (s &&& k) = a at *
        clear HSC hh
        clear HRR HS HC HN
        go_wp2_with fail
        clear c0 c1
        try simp only [List.append_eq, List.cons_append, List.nil_append]
        refine wp_region_org [(0, true), (1, true), (2, true), (3, true), (4, true), (5, true), (6, true), (8, true), (9, true), (11, true), (12, true), (7, false), (10, true), (13, true)] (by kernel_rfl) (by kernel_rfl) (by kernel_rfl) ?_
        replace HHR := Lib.hid HHR.out.drew
        replace HB := Lib.hid HB.out.drew
        generalize wr.drew = w3 at *
        simp only [pickOrs, List.getElem?_cons_zero, List.getElem?_cons_succ]
        refine org_pure (v := ?_) (by kernel_rfl) ?_ ?_
        rotate_left
        · intro w' hw; clear hw; go_simp; try with_reducible rfl
        try simp only [Act.put, List.setIfInBounds_toArray, List.set_cons_zero, List.set_cons_succ]
        refine org_pure (v := ?_) (by kernel_rfl) ?_ ?_
        rotate_left
        · intro w' hw; clear hw; go_simp; try with_reducible rfl
        try simp only [Act.put, List.setIfInBounds_toArray, List.set_cons_zero, List.set_cons_succ]
        refine org_pure (v := ?_) (by kernel_rfl) ?_ ?_
        rotate_left
        · intro w' hw; clear hw; go_simp; try with_reducible rfl
        try simp only [Act.put, List.setIfInBounds_toArray, List.set_cons_zero, List.set_cons_succ]
        refine org_pure (v := ?_) (by kernel_rfl) ?_ ?_
        rotate_left
        · intro w' hw; have cx := Has.cellv (i := 2) (HHR.out.keep hw HHR.out.lt) rfl; clear hw; go_simp; try with_reducible rfl
        try simp only [Act.put, List.setIfInBounds_toArray, List.set_cons_zero, List.set_cons_succ]
        refine org_pure (v := ?_) (by kernel_rfl) ?_ ?_
        rotate_left
        · intro w' hw; clear hw; go_simp; try with_reducible rfl
        try simp only [Act.put, List.setIfInBounds_toArray, List.set_cons_zero, List.set_cons_succ]
        refine org_pure (v := ?_) (by kernel_rfl) ?_ ?_
        rotate_left
        · intro w' hw; clear hw; go_simp; try with_reducible rfl
        try simp only [Act.put, List.setIfInBounds_toArray, List.set_cons_zero, List.set_cons_succ]
        refine org_pure (v := ?_) (by kernel_rfl) ?_ ?_
        rotate_left
        · intro w' hw; clear hw; go_simp; try with_reducible rfl
        try simp only [Act.put, List.setIfInBounds_toArray, List.set_cons_zero, List.set_cons_succ]
        refine org_pure (v := ?_) (by kernel_rfl) ?_ ?_
        rotate_left
        · intro w' hw; clear hw; go_simp; try with_reducible rfl
        try simp only [Act.put, List.setIfInBounds_toArray, List.set_cons_zero, List.set_cons_succ]
        refine org_pure (v := ?_) (by kernel_rfl) ?_ ?_
        rotate_left
        · intro w' hw; have cx := Has.cellv (i := 3) (HHR.out.keep hw HHR.out.lt) rfl; clear hw; go_simp; try with_reducible rfl
        try simp only [Act.put, List.setIfInBounds_toArray, List.set_cons_zero, List.set_cons_succ]
        refine org_pure (v := ?_) (by kernel_rfl) ?_ ?_
        rotate_left
        · intro w' hw; clear hw; go_simp; try with_reducible rfl
        try simp only [Act.put, List.setIfInBounds_toArray, List.set_cons_zero, List.set_cons_succ]
        refine org_pure (v := ?_) (by kernel_rfl) ?_ ?_
        rotate_left
        · intro w' hw; have cx := Has.cellv (i := 4) (HHR.out.keep hw HHR.out.lt) rfl; clear hw; go_simp; try with_reducible rfl
        try simp only [Act.put, List.setIfInBounds_toArray, List.set_cons_zero, List.set_cons_succ]
        refine org_step (by kernel_rfl) (fun K hK => ?_)
        go_wp2_with fail
        refine (H1.out w3 ((HSM.out.keep HB.out).more HB.out.size)).mono ?_
        rintro e w4 ⟨rfl, hb⟩
        have HX : Hid (Ext w3 w4) := Lib.hid hb
        have HHR4 := Lib.hid (HHR.out.keep hb HHR.out.lt)
        have HB4 := Lib.hid (HB.out.trans (hb.mono HB.out.size))
        clear hb H1 HB HHR
        go_wp2_with fail
        refine ⟨HX.out, ?_⟩
        try simp only [Act.put, List.setIfInBounds_toArray, List.set_cons_zero, List.set_cons_succ]
        refine org_pure (v := ?_) (by kernel_rfl) ?_ ?_
        rotate_left
        · intro w' hw; clear hw; go_simp; try with_reducible rfl
        try simp only [Act.put, List.setIfInBounds_toArray, List.set_cons_zero, List.set_cons_succ]
        refine org_pure (v := ?_) (by kernel_rfl) ?_ ?_
        rotate_left
        · intro w' hw; clear hw; go_simp; try with_reducible rfl
        try simp only [Act.put, List.setIfInBounds_toArray, List.set_cons_zero, List.set_cons_succ]
        refine org_nil ?_
        go_wp2_with fail
        go_roundw
        case rel => exact ⟨n + 1, by omega, by omega, by go_num, HHR4.out, HB4.out, HRES.out⟩
        case measure => simp [intOf]; omega
    · have HE : Hid (T = N) := Lib.hid (by rw [← HSC.out, scan_end _ _ _ (by omega)])
      clear HSC HRR HS HC HN
      by_cases h2 : x < b.length
      · have hx : T = x := by have := HTT.out; omega
        have y1 : ¬ (n : Int) ≤ (x : Int) := by omega
        have y3 : (x : Int) < (b.length : Int) := by omega
        have HXX := Lib.hid hx
        clear h1 h2 hx
        go_wp2_with fail
        go_ret
        exact ⟨by rw [← HE.out, HXX.out]; rfl, HB.out⟩
      · have hx : T = b.length := by have := HTT.out; omega
        have y3 : ¬ (x : Int) < (b.length : Int) := by omega
        have HXX := Lib.hid hx
        by_cases h3 : n ≤ x
        · have y1 : (n : Int) ≤ (x : Int) := by omega
          have y2 : ¬ (n : Int) ≤ (b.length : Int) := by omega
          clear h1 h2 h3 hx
          go_wp2_with fail
          go_ret
          exact ⟨by rw [← HE.out, HXX.out]; rfl, HB.out⟩
        · have y1 : ¬ (n : Int) ≤ (x : Int) := by omega
          clear h1 h2 h3 hx
          go_wp2_with fail
          go_ret
          exact ⟨by rw [← HE.out, HXX.out]; rfl, HB.out⟩
end Go.Proofs.Ytkfelfcmpabjoaa
