/- The law CutLocal returns true: where the first piece ends hangs on what stands up to there. Condition: the bytes as they came in. -/
import Derived.Test.YtkfelfcmpabjoaaAwake
import Derived.Test.YtkfelfcmpabjoaaOpenR
import Derived.Test.YtkfelfcmpabjoaaApp
namespace Go.Proofs.Ytkfelfcmpabjoaa
open Go.RowKit
set_option maxHeartbeats 1000000 in
set_option maxRecDepth 100000 in
theorem local_bad (m x d k t : Int) (hok : okI m x d = false) (b e : List (BitVec 8)) (q : Option Addr) (c : Nat) (p : Option Addr) (d2 : Nat)  (w : World) :
    Calls Try.prog 7 #[ruleV m x d k t, .slice q b.length c, .slice p e.length d2] w fun e w' => e = .returned (.bool true) ∧ Below w.heap.size w w' := by
  have HG := Lib.hid (fun w1 => good_any m x d k t w1)
  rw [hok] at HG
  have HA := Lib.hid (fun v => awake_any v)
  have HR := Lib.hid (Has.made' w 25 _ (ruleL m x d k t) rfl)
  have HB1 := Lib.hid ((Below.refl w.heap.size w).alloc (Nat.le_refl _) (.cells (ruleL m x d k t).toArray 25))
  have HZ : Hid ((w.alloc (.cells (ruleL m x d k t).toArray 25)).heap.size = w.heap.size + 1) := Lib.hid (by simp)
  unfold ruleV at HG ⊢
  unfold ruleL at HG HR HB1 HZ ⊢
  go_enter Try.func7, Try.ntmps7
  go_wp2_with fail
  refine (HA.out _).mono ?_
  rintro e w2 ⟨rfl, hb⟩
  have HB2 := Lib.hid (HB1.out.trans (hb.mono (by have := HZ.out; omega)))
  have HR2 := Lib.hid (HR.out.keep hb (by have := HZ.out; omega))
  have c0 := HR2.out.cellv (i := 0) rfl
  have c1 := HR2.out.cellv (i := 1) rfl
  have c2 := HR2.out.cellv (i := 2) rfl
  have c3 := HR2.out.cellv (i := 3) rfl
  have c4 := HR2.out.cellv (i := 4) rfl
  clear hb HB1 HR HZ HA
  go_wp2_with fail
  refine (HG.out _).mono ?_
  rintro e w3 ⟨rfl, hb⟩
  have HB3 := Lib.hid (HB2.out.trans (hb.mono HB2.out.size))
  clear hb HB2
  go_wp2_with fail
  go_ret
  exact ⟨rfl, HB3.out⟩
set_option maxHeartbeats 1000000 in
set_option maxRecDepth 100000 in
theorem local_longb (m x d k t : Int) (hok : okI m x d = true) (b e : List (BitVec 8)) (q : Option Addr) (c : Nat) (p : Option Addr) (d2 : Nat) (h : 300 < b.length) (w : World) :
    Calls Try.prog 7 #[ruleV m x d k t, .slice q b.length c, .slice p e.length d2] w fun e w' => e = .returned (.bool true) ∧ Below w.heap.size w w' := by
  have k0 : (300 : Int) < (b.length : Int) := by omega
  have HG := Lib.hid (fun w1 => good_any m x d k t w1)
  rw [hok] at HG
  have HA := Lib.hid (fun v => awake_any v)
  have HR := Lib.hid (Has.made' w 25 _ (ruleL m x d k t) rfl)
  have HB1 := Lib.hid ((Below.refl w.heap.size w).alloc (Nat.le_refl _) (.cells (ruleL m x d k t).toArray 25))
  have HZ : Hid ((w.alloc (.cells (ruleL m x d k t).toArray 25)).heap.size = w.heap.size + 1) := Lib.hid (by simp)
  unfold ruleV at HG ⊢
  unfold ruleL at HG HR HB1 HZ ⊢
  go_enter Try.func7, Try.ntmps7
  go_wp2_with fail
  refine (HA.out _).mono ?_
  rintro e w2 ⟨rfl, hb⟩
  have HB2 := Lib.hid (HB1.out.trans (hb.mono (by have := HZ.out; omega)))
  have HR2 := Lib.hid (HR.out.keep hb (by have := HZ.out; omega))
  have c0 := HR2.out.cellv (i := 0) rfl
  have c1 := HR2.out.cellv (i := 1) rfl
  have c2 := HR2.out.cellv (i := 2) rfl
  have c3 := HR2.out.cellv (i := 3) rfl
  have c4 := HR2.out.cellv (i := 4) rfl
  clear hb HB1 HR HZ HA
  go_wp2_with fail
  refine (HG.out _).mono ?_
  rintro e w3 ⟨rfl, hb⟩
  have HB3 := Lib.hid (HB2.out.trans (hb.mono HB2.out.size))
  clear hb HB2
  go_wp2_with fail
  go_ret
  exact ⟨rfl, HB3.out⟩
set_option maxHeartbeats 1000000 in
set_option maxRecDepth 100000 in
theorem local_longe (m x d k t : Int) (hok : okI m x d = true) (b e : List (BitVec 8)) (q : Option Addr) (c : Nat) (p : Option Addr) (d2 : Nat) (hb0 : ¬ 300 < b.length) (h : 300 < e.length) (w : World) :
    Calls Try.prog 7 #[ruleV m x d k t, .slice q b.length c, .slice p e.length d2] w fun e w' => e = .returned (.bool true) ∧ Below w.heap.size w w' := by
  have k0 : ¬ (300 : Int) < (b.length : Int) := by omega
  have k1 : (300 : Int) < (e.length : Int) := by omega
  have HG := Lib.hid (fun w1 => good_any m x d k t w1)
  rw [hok] at HG
  have HA := Lib.hid (fun v => awake_any v)
  have HR := Lib.hid (Has.made' w 25 _ (ruleL m x d k t) rfl)
  have HB1 := Lib.hid ((Below.refl w.heap.size w).alloc (Nat.le_refl _) (.cells (ruleL m x d k t).toArray 25))
  have HZ : Hid ((w.alloc (.cells (ruleL m x d k t).toArray 25)).heap.size = w.heap.size + 1) := Lib.hid (by simp)
  unfold ruleV at HG ⊢
  unfold ruleL at HG HR HB1 HZ ⊢
  go_enter Try.func7, Try.ntmps7
  go_wp2_with fail
  refine (HA.out _).mono ?_
  rintro e w2 ⟨rfl, hb⟩
  have HB2 := Lib.hid (HB1.out.trans (hb.mono (by have := HZ.out; omega)))
  have HR2 := Lib.hid (HR.out.keep hb (by have := HZ.out; omega))
  have c0 := HR2.out.cellv (i := 0) rfl
  have c1 := HR2.out.cellv (i := 1) rfl
  have c2 := HR2.out.cellv (i := 2) rfl
  have c3 := HR2.out.cellv (i := 3) rfl
  have c4 := HR2.out.cellv (i := 4) rfl
  clear hb HB1 HR HZ HA
  go_wp2_with fail
  refine (HG.out _).mono ?_
  rintro e w3 ⟨rfl, hb⟩
  have HB3 := Lib.hid (HB2.out.trans (hb.mono HB2.out.size))
  clear hb HB2
  go_wp2_with fail
  go_ret
  exact ⟨rfl, HB3.out⟩
theorem made_empty (w : World) (base : Nat) (h : base ≤ w.heap.size) : (w.alloc (.cells #[] 5)).ownsRow base 5 1 (.slice (some ⟨w.heap.size, 0, none⟩) 0 0) 0 [] :=
  World.ownsRow_made w #[] 0 h (by decide) rfl
set_option maxHeartbeats 2000000 in
set_option maxRecDepth 100000 in
theorem local_main (r : Rl) (hr : r.Ok) (b e : List (BitVec 8)) (hbl : b.length ≤ 300) (hel : e.length ≤ 300) (q : Option Addr) (c : Nat) (p : Option Addr) (d2 : Nat) (w : World) (hc : b.length ≤ c) (hq : q = none → c = 0) (hs : Sees w w.heap.size q (b.map u8v))
    (hp : p = none → d2 = 0) (ht : Sees w w.heap.size p (e.map u8v)) :
    Calls Try.prog 7 #[r.val, .slice q b.length c, .slice p e.length d2] w fun e w' => e = .returned (.bool true) ∧ Below w.heap.size w w' := by
  have k0 : ¬ (300 : Int) < (b.length : Int) := by omega
  have k1 : ¬ (300 : Int) < (e.length : Int) := by omega
  have HN := Lib.hid (fun v (hb : Below w.heap.size w v) => next_good r hr b q c v hc (by omega) ((hs.keep hb).more hb.size))
  have HN2 := Lib.hid (fun (q : Option Addr) (c : Nat) (v : World) (hc : (b ++ e).length ≤ c) (hs : Sees v v.heap.size q ((b ++ e).map u8v)) => next_good r hr (b ++ e) q c v hc (by rw [List.length_append]; omega) hs)
  have HLO := Lib.hid (nx_local hr b e)
  have HLE := Lib.hid (nx_le r b)
  have HPO : Hid (b.length ≠ 0 → 1 ≤ nx r b) := Lib.hid (fun h => nx_pos hr h)
  have HLM := Lib.hid (nx_le r (b ++ e)).1
  have HX5 := Lib.hid hr.w5
  have hok := okI_of hr
  have HS := Lib.hid hs
  have HT := Lib.hid ht
  have HQ := Lib.hid hq
  have HP := Lib.hid hp
  generalize nx r b = n at *
  have hzl : (b ++ e).length = b.length + e.length := List.length_append
  obtain ⟨z, hz⟩ : ∃ z, z = b ++ e := ⟨_, rfl⟩
  rw [← hz] at HN2 HLO HLM hzl
  have HZL := Lib.hid hzl
  have HZZ := Lib.hid hz
  clear hz hzl
  generalize nx r z = n2 at *
  have HG := Lib.hid (fun w1 => good_any r.mn r.mx r.wd r.mask r.want w1)
  rw [hok] at HG
  have HA := Lib.hid (fun v => awake_any v)
  have HR := Lib.hid (Has.made' w 25 _ (ruleL r.mn r.mx r.wd r.mask r.want) rfl)
  have HB1 := Lib.hid ((Below.refl w.heap.size w).alloc (Nat.le_refl _) (.cells (ruleL r.mn r.mx r.wd r.mask r.want).toArray 25))
  have HZ : Hid ((w.alloc (.cells (ruleL r.mn r.mx r.wd r.mask r.want).toArray 25)).heap.size = w.heap.size + 1) := Lib.hid (by simp)
  clear hr hok hs hc ht hq hp
  unfold Rl.val at HN HN2 ⊢
  unfold ruleV ruleL at HN HN2
  unfold ruleV at HG ⊢
  unfold ruleL at HG HR HB1 HZ ⊢
  go_enter Try.func7, Try.ntmps7
  go_wp2_with fail
  refine (HA.out _).mono ?_
  rintro e w2 ⟨rfl, hb⟩
  have HB2 := Lib.hid (HB1.out.trans (hb.mono (by have := HZ.out; omega)))
  have HR2 := Lib.hid (HR.out.keep hb (by have := HZ.out; omega))
  have c0 := HR2.out.cellv (i := 0) rfl
  have c1 := HR2.out.cellv (i := 1) rfl
  have c2 := HR2.out.cellv (i := 2) rfl
  have c3 := HR2.out.cellv (i := 3) rfl
  have c4 := HR2.out.cellv (i := 4) rfl
  clear hb HB1 HR HZ HA
  go_wp2_with fail
  refine (HG.out _).mono ?_
  rintro e w3 ⟨rfl, hb⟩
  have HB3 := Lib.hid (HB2.out.trans (hb.mono HB2.out.size))
  have HR3 := Lib.hid (HR2.out.keep hb HR2.out.lt)
  clear hb HB2 HR2 c0 c1 c2 c3 c4 HG
  have c0 := HR3.out.cellv (i := 0) rfl
  have c1 := HR3.out.cellv (i := 1) rfl
  have c2 := HR3.out.cellv (i := 2) rfl
  have c3 := HR3.out.cellv (i := 3) rfl
  have c4 := HR3.out.cellv (i := 4) rfl
  go_wp2_with fail
  refine (HN.out _ HB3.out).mono ?_
  rintro e w4 ⟨rfl, hb⟩
  have HB4 := Lib.hid (HB3.out.trans (hb.mono HB3.out.size))
  have HR4 := Lib.hid (HR3.out.keep hb HR3.out.lt)
  clear hb HB3 HR3 HN c0 c1 c2 c3 c4
  go_wp2_with fail
  replace HB4 := Lib.hid HB4.out.drew
  replace HR4 := Lib.hid HR4.out.drew
  refine wp_region_ors (fun v => Below w4.drew.heap.size w4.drew v) [(0, true), (2, true), (4, true), (1, false), (3, false), (5, false), (6, false), (7, true)] (by kernel_rfl) (by kernel_rfl) (by kernel_rfl) (Below.refl _ _) ?_
  generalize w4.drew = w5 at *
  simp only [pickOrs, List.getElem?_cons_zero, List.getElem?_cons_succ]
  refine ors_pure (by kernel_rfl) (fun w' hv => load_at 25 (.tmp 3) rfl w.heap.size rfl 25 _ w' (HR4.out.keep hv HR4.out.lt) _ Try.underlying25 rfl (by kernel_rfl)) ?_
  try simp only [Act.put, List.setIfInBounds_toArray, List.set_cons_zero, List.set_cons_succ]
  refine ors_pure (v := ?_) (by kernel_rfl) ?_ ?_
  rotate_left
  · intro w' hv; clear hv; go_simp; try with_reducible rfl
  try simp only [Act.put, List.setIfInBounds_toArray, List.set_cons_zero, List.set_cons_succ]
  refine ors_pure (v := ?_) (by kernel_rfl) ?_ ?_
  rotate_left
  · intro w' hv; clear hv; go_simp; try with_reducible rfl
  try simp only [Act.put, List.setIfInBounds_toArray, List.set_cons_zero, List.set_cons_succ]
  refine ors_step (by kernel_rfl) (fun K hK => ?_)
  go_wp2_with fail
  have hx6 := (Below.refl w5.heap.size w5).alloc (Nat.le_refl _) (.cells #[] 5)
  have HO6 := Lib.hid (made_empty w5 w5.heap.size (Nat.le_refl _))
  have HX6 := Lib.hid hx6
  have HB6 := Lib.hid (HB4.out.trans (hx6.mono HB4.out.size))
  clear hx6
  generalize w5.alloc (.cells #[] 5) = w6 at *
  refine ⟨HX6.out, ?_⟩
  try simp only [Act.put, List.setIfInBounds_toArray, List.set_cons_zero, List.set_cons_succ]
  refine ors_step (by kernel_rfl) (fun K hK => ?_)
  refine wp_append_sees (.tmp 28) (.tmp 29) rfl w5.heap.size _ 0 [] rfl HO6.out q b c w.heap.size rfl HQ.out (HS.out.keep HB6.out) (by omega) HX6.out.size ?_
  intro v7 w7 h1 h2
  rw [Nat.zero_add, List.nil_append] at h1
  have HO7 := Lib.hid h1
  have HX7 := Lib.hid (HX6.out.trans h2)
  have HB7 := Lib.hid (HB4.out.trans (HX7.out.mono HB4.out.size))
  clear h1 h2 HO6 HB6
  refine hK _ _ ⟨HX7.out, ?_⟩
  try simp only [Act.put, List.setIfInBounds_toArray, List.set_cons_zero, List.set_cons_succ]
  refine ors_step (by kernel_rfl) (fun K hK => ?_)
  have hlen : b.length + e.length ≤ 140737488355328 := by omega
  refine wp_append_sees (.tmp 30) (.tmp 31) rfl w5.heap.size v7 b.length (b.map u8v) rfl HO7.out p e d2 w.heap.size rfl HP.out (HT.out.keep HB7.out) hlen HX7.out.size ?_
  intro v8 w8 h1 h2
  rw [← List.map_append, ← HZZ.out] at h1
  obtain ⟨q8, c8, rfl, hc8, _, hs8⟩ := Bs.own h1
  have HS8 := Lib.hid hs8
  have HC8 := Lib.hid hc8
  have HX8 := Lib.hid (HX7.out.trans h2)
  have HB8 := Lib.hid (HB4.out.trans (HX8.out.mono HB4.out.size))
  clear h1 h2 HO7 HB7 hs8 hc8
  refine hK _ _ ⟨HX8.out, ?_⟩
  try simp only [Act.put, List.setIfInBounds_toArray, List.set_cons_zero, List.set_cons_succ]
  refine ors_step (by kernel_rfl) (fun K hK => ?_)
  go_wp2_with fail
  refine (HN2.out q8 c8 w8 HC8.out HS8.out).mono ?_
  rintro e w9 ⟨rfl, hb⟩
  have HX9 := Lib.hid (HX8.out.trans (hb.mono HX8.out.size))
  have HB9 := Lib.hid (HB4.out.trans (HX9.out.mono HB4.out.size))
  have HR9 := Lib.hid (HR4.out.keep HX9.out HR4.out.lt)
  clear hb HB8 HX8 HX7 HX6 HS8 HC8
  go_wp2_with fail
  refine ⟨HX9.out, ?_⟩
  try simp only [Act.put, List.setIfInBounds_toArray, List.set_cons_zero, List.set_cons_succ]
  refine ors_pure (v := ?_) (by kernel_rfl) ?_ ?_
  rotate_left
  · intro w' hv; clear hv; go_simp; try with_reducible rfl
  try simp only [Act.put, List.setIfInBounds_toArray, List.set_cons_zero, List.set_cons_succ]
  refine ors_nil ?_
  have c1 := HR9.out.cellv (i := 1) rfl
  obtain ⟨g1, g2⟩ := HLE.out
  have f1 : (0 : Int) ≤ (n : Int) := by omega
  have f2 : (n : Int) ≤ (b.length : Int) := by omega
  have f3 : (n : Int) ≤ (r.mx : Int) := by omega
  have g3 := HPO.out
  have g4 := HLO.out
  clear HR4 HR9 HX9 HN2 HZL HZZ HLM
  by_cases hz : b.length = 0
  · have e3 : ((b.length : Int) == 0) = true := by rw [hz]; rfl
    have e4 : ((n : Int) == 0) = true := by rw [show n = 0 by omega]; rfl
    by_cases hm : n = n2
    · have e1 : ((n : Int) == (n2 : Int)) = true := by rw [hm]; simp
      clear hm hz g1 g2 g3 g4
      go_wp2_with fail
      go_ret
      exact ⟨rfl, HB9.out⟩
    · have e1 : ((n : Int) == (n2 : Int)) = false := by rw [beq_eq_false_iff_ne]; omega
      have e2 : ((n : Int) == (b.length : Int)) = true := by rw [beq_iff_eq]; omega
      have f4 : (n : Int) ≤ (n2 : Int) := by omega
      clear hm hz g1 g2 g3 g4
      go_wp2_with fail
      go_ret
      exact ⟨rfl, HB9.out⟩
  · have e3 : ((b.length : Int) == 0) = false := by rw [beq_eq_false_iff_ne]; omega
    have e4 : ((n : Int) == 0) = false := by rw [beq_eq_false_iff_ne]; have := g3 hz; omega
    by_cases hm : n = n2
    · have e1 : ((n : Int) == (n2 : Int)) = true := by rw [hm]; simp
      clear hm hz g1 g2 g3 g4
      go_wp2_with fail
      go_ret
      exact ⟨rfl, HB9.out⟩
    · have e1 : ((n : Int) == (n2 : Int)) = false := by rw [beq_eq_false_iff_ne]; omega
      have e2 : ((n : Int) == (b.length : Int)) = true := by rw [beq_iff_eq]; omega
      have f4 : (n : Int) ≤ (n2 : Int) := by omega
      clear hm hz g1 g2 g3 g4
      go_wp2_with fail
      go_ret
      exact ⟨rfl, HB9.out⟩
theorem local_any (m x d k t : Int) (hk : 0 ≤ k ∧ k ≤ 18446744073709551615) (ht : 0 ≤ t ∧ t ≤ 18446744073709551615) (b e : List (BitVec 8)) (q : Option Addr) (c : Nat) (p : Option Addr) (d2 : Nat) (w : World) (hc : b.length ≤ c) (hq : q = none → c = 0) (hs : Sees w w.heap.size q (b.map u8v))
    (hp : p = none → d2 = 0) (he : Sees w w.heap.size p (e.map u8v)) :
    Calls Try.prog 7 #[ruleV m x d k t, .slice q b.length c, .slice p e.length d2] w fun e w' => e = .returned (.bool true) ∧ Below w.heap.size w w' := by
  cases hok : okI m x d with
  | false => exact local_bad m x d k t hok b e q c p d2 w
  | true =>
    by_cases hl : 300 < b.length
    · exact local_longb m x d k t hok b e q c p d2 hl w
    · by_cases hl2 : 300 < e.length
      · exact local_longe m x d k t hok b e q c p d2 hl hl2 w
      · obtain ⟨r, hr, h⟩ := rule_nat m x d k t hk ht hok
        rw [h]
        exact local_main r hr b e (by omega) (by omega) q c p d2 w hc hq hs hp he
end Go.Proofs.Ytkfelfcmpabjoaa
