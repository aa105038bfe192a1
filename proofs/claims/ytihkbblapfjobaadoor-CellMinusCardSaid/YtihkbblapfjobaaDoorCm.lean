/- The law CellMinus: it answers true. Conditions: the sums' tables are laid; what comes in lies in memory. -/
import Derived.Test.YtihkbblapfjobaaDoorAw
import Derived.Test.YtihkbblapfjobaaDoorCb
import Derived.Test.YtihkbblapfjobaaDoorFox
namespace Go.Proofs.YtihkbblapfjobaaDoor
open Go.RowKit
theorem cm_1 (A B : List Su) : minusC (putL zC A) (putL zC B) = takeL (putL zC A) B := by rw [minus_putL, minusC_zero (okC_putL A zC okC_zero)]
def waitCm1 (i : Nat) : List Nat := ([[], [0]] : List (List Nat)).getD i []
def slotsCm1 : List (Nat × Nat) := [(10, 0), (11, 1)]
theorem sbCm1 : slotsB slotsCm1 = true := by kernel_rfl
theorem chkCm1 : flwO slotsCm1 waitCm1 2 (regOf Tryd.f6.body 1) = true := by kernel_rfl
def waitCm5 (i : Nat) : List Nat := ([[], [], [], [], [], [], [0, 1, 2, 3, 4, 5], [0, 1, 2, 3, 4, 5, 6], [0, 1, 2, 3, 4, 5, 6, 7]] : List (List Nat)).getD i []
def slotsCm5 : List (Nat × Nat) := [(20, 0), (21, 1), (22, 2), (5, 3), (6, 4), (7, 5)]
theorem sbCm5 : slotsB slotsCm5 = true := by kernel_rfl
theorem chkCm5 : flwO slotsCm5 waitCm5 6 (regOf Tryd.f6.body 5) = true := by kernel_rfl
def waitCm9 (i : Nat) : List Nat := ([[], [], [], [1, 2], [3], [0, 4], [0, 1, 2, 3, 4, 5]] : List (List Nat)).getD i []
def slotsCm9 : List (Nat × Nat) := [(29, 0), (30, 1), (31, 2), (32, 3), (33, 4), (34, 5)]
theorem sbCm9 : slotsB slotsCm9 = true := by kernel_rfl
theorem chkCm9 : flwB slotsCm9 waitCm9 6 (regOf Tryd.f6.body 9) = true := by kernel_rfl
def waitCm10 (i : Nat) : List Nat := ([[], [], [], [1, 2], [3], [0, 4], [0, 1, 2, 3, 4, 5]] : List (List Nat)).getD i []
def slotsCm10 : List (Nat × Nat) := [(35, 0), (36, 1), (37, 2), (38, 3), (39, 4), (40, 5)]
theorem sbCm10 : slotsB slotsCm10 = true := by kernel_rfl
theorem chkCm10 : flwB slotsCm10 waitCm10 6 (regOf Tryd.f6.body 10) = true := by kernel_rfl
def waitCm14 (i : Nat) : List Nat := ([[], [], [], [1, 2], [3], [0, 4], [0, 1, 2, 3, 4, 5]] : List (List Nat)).getD i []
def slotsCm14 : List (Nat × Nat) := [(47, 0), (48, 1), (49, 2), (50, 3), (51, 4), (52, 5)]
theorem sbCm14 : slotsB slotsCm14 = true := by kernel_rfl
theorem chkCm14 : flwB slotsCm14 waitCm14 6 (regOf Tryd.f6.body 14) = true := by kernel_rfl
def waitCm15 (i : Nat) : List Nat := ([[], [], [], [1, 2], [3], [0, 4], [0, 1, 2, 3, 4, 5]] : List (List Nat)).getD i []
def slotsCm15 : List (Nat × Nat) := [(53, 0), (54, 1), (55, 2), (56, 3), (57, 4), (58, 5)]
theorem sbCm15 : slotsB slotsCm15 = true := by kernel_rfl
theorem chkCm15 : flwB slotsCm15 waitCm15 6 (regOf Tryd.f6.body 15) = true := by kernel_rfl
def waitCm16 (i : Nat) : List Nat := ([[], [], [0, 1], [], [2, 3], [4], [5], [5], [5, 6, 7], [5, 8], [5, 9], [10], [11], [11], [11, 12, 13], [11], [11, 14, 15], [11, 16], [17]] : List (List Nat)).getD i []
def slotsCm16 : List (Nat × Nat) := [(59, 0), (60, 1), (61, 2), (62, 3), (63, 4), (64, 5), (65, 6), (66, 7), (67, 8), (68, 9), (69, 10), (70, 11), (71, 12), (72, 13), (73, 14), (74, 15), (75, 16), (76, 17), (4, 18)]
theorem sbCm16 : slotsB slotsCm16 = true := by kernel_rfl
theorem chkCm16 : flwB slotsCm16 waitCm16 19 (regOf Tryd.f6.body 16) = true := by kernel_rfl
set_option maxHeartbeats 16000000 in
set_option maxRecDepth 100000 in
theorem cellMinus_any (A B : List Su) (qa qb : Option Addr) (ca cb : Nat) (w : World) (hL : Laid w) (ha : Sees w w.heap.size qa (rowU A)) (hb : Sees w w.heap.size qb (rowU B)) :
    Calls Tryd.prog 6 #[.slice qa A.length ca, .slice qb B.length cb] w fun e w' => e = .returned (.bool true) ∧ Below w.heap.size w w' := by
  have HL := Lib.hid hL
  have HSZ := Lib.hid hL.size
  have HSA := Lib.hid ha
  have HSB := Lib.hid hb
  obtain ⟨na, hna⟩ : ∃ n, A.length = n := ⟨_, rfl⟩
  obtain ⟨nb, hnb⟩ : ∃ n, B.length = n := ⟨_, rfl⟩
  have HNA := Lib.hid hna
  have HNB := Lib.hid hnb
  have HB : Hid (Below w.heap.size w w) := Lib.hid (Below.refl _ _)
  rw [hna, hnb]
  clear ha hb hna hnb hL
  go_enter Tryd.func6, Tryd.ntmps6
  go_upto_region 1 with fail
  refine wp_act (fun a0 ha0 => ?_)
  have zsz : a0.tmps.size = 77 := by rw [ha0]; rfl
  refine wp_region_flwo (E := Flz) [] slotsCm1 waitCm1 [Fct.val Flz 0 (.bool true), Fct.val Flz 1 (.bool false)] (fun w' => Below w.heap.size w w') _ 2 0 chkCm1 (by kernel_rfl) rfl (by kernel_rfl) (by decide) (Below.refl _ _) ?_ ?_
  · refine lt_s (lt_s (lt_0) ?_) ?_
    · intro f w1 hS hf
      generalize hA : putAll _ _ f = aA
      exact flw_call rfl rfl 9 #[] _ rfl #[] (by kernel_rfl) (fun w => by kernel_rfl) (fun v _ => v = .bool true) (awake13_any w1 (HL.out.keep (HB.out.trans (hS.mono HB.out.size)) HSZ.out)) (fun v w' hr hb => ⟨hS.trans (hb.mono hS.size), Flz.of hb, (updF_self _ _ _).trans hr⟩)
    · intro f w1 hS hf
      generalize hA : putAll _ _ f = aA
      have h10 : f 0 = .bool true := hf 0 (by decide)
      have r10 : aA.eval (.tmp 10) = .bool true := by rw [← hA]; exact putAll_at f 10 0 slotsCm1 a0 sbCm1 (by kernel_rfl) zsz rfl h10
      exact flw_val rfl rfl (.bool false) (ex_not _ (.tmp 10) rfl r10) hS (Flz.refl _) (updF_self _ _ _)
  intro f w1 hS hf hap
  have h0 : f 0 = .bool true := hf 0 (by decide)
  have h1 : f 1 = .bool false := hf 1 (by decide)
  clear hf hap
  clear zsz
  subst ha0
  simp only [slotsCm1, putAll, h0, h1, Act.put, List.setIfInBounds_toArray, List.set_cons_zero, List.set_cons_succ]
  clear h0 h1
  refine tl_nil ?_
  replace HB := Lib.hid (HB.out.trans (hS.mono HB.out.size))
  clear hS
  by_cases h1 : 40 < na
  · have k1 : (40 : Int) < (na : Int) := by omega
    go_wp2_with fail
    go_ret
    exact ⟨rfl, HB.out⟩
  have k1 : ¬ (40 : Int) < (na : Int) := by omega
  by_cases h2 : 40 < nb
  · have k2 : (40 : Int) < (nb : Int) := by omega
    go_wp2_with fail
    go_ret
    exact ⟨rfl, HB.out⟩
  have k2 : ¬ (40 : Int) < (nb : Int) := by omega
  go_upto_region 5 with fail
  refine wp_act (fun a0 ha0 => ?_)
  have zsz : a0.tmps.size = 77 := by rw [ha0]; rfl
  refine wp_region_flwo (E := Flz) [3, 4, 5] slotsCm5 waitCm5 [Fct.val Flz 0 (aggC zC), Fct.val Flz 1 (aggC zC), Fct.val Flz 2 (aggC zC), Fct.obj 3 (fun v w => ∃ g, v = .pointer (some ⟨g, 0, none⟩) ∧ w1.heap.size ≤ g ∧ Has w g 28 (encC zC)) (fun _ _ _ ⟨g, a, b, c⟩ he => ⟨g, a, b, c.flz he (by decide)⟩), Fct.obj 4 (fun v w => ∃ g, v = .pointer (some ⟨g, 0, none⟩) ∧ w1.heap.size ≤ g ∧ Has w g 28 (encC zC)) (fun _ _ _ ⟨g, a, b, c⟩ he => ⟨g, a, b, c.flz he (by decide)⟩), Fct.obj 5 (fun v w => ∃ g, v = .pointer (some ⟨g, 0, none⟩) ∧ w1.heap.size ≤ g ∧ Has w g 28 (encC zC)) (fun _ _ _ ⟨g, a, b, c⟩ he => ⟨g, a, b, c.flz he (by decide)⟩)] (fun w' => Below w1.heap.size w1 w') _ 6 3 chkCm5 (by kernel_rfl) rfl (by kernel_rfl) (by decide) (Below.refl _ _) ?_ ?_
  · refine lt_s (lt_s (lt_s (lt_s (lt_s (lt_s (lt_0) ?_) ?_) ?_) ?_) ?_) ?_
    · intro f w1 hS hf
      generalize hA : putAll _ _ f = aA
      exact flw_val rfl rfl (aggC zC) (ex_build 28 _ rfl (encC zC).toArray [] (by kernel_rfl) (builtC0)) hS (Flz.refl _) (updF_self _ _ _)
    · intro f w1 hS hf
      generalize hA : putAll _ _ f = aA
      exact flw_val rfl rfl (aggC zC) (ex_build 28 _ rfl (encC zC).toArray [] (by kernel_rfl) (builtC0)) hS (Flz.refl _) (updF_self _ _ _)
    · intro f w1 hS hf
      generalize hA : putAll _ _ f = aA
      exact flw_val rfl rfl (aggC zC) (ex_build 28 _ rfl (encC zC).toArray [] (by kernel_rfl) (builtC0)) hS (Flz.refl _) (updF_self _ _ _)
    · intro f w1 hS hf
      generalize hA : putAll _ _ f = aA
      exact flw_wpA rfl rfl (fun K hK => wp_alloc_row 28 rfl (aggC zC) (fun w => by kernel_rfl) (hK _ _ (hS.alloc hS.size _) (Flz.al _ _) ⟨_, updF_self _ _ _, hS.size, Has.made' _ _ _ _ rfl⟩ (by
        intro i hi hne hl
        simp only [List.mem_cons, List.not_mem_nil, or_false] at hi
        rcases hi with rfl | rfl | rfl
        · exact absurd rfl hne
        · obtain ⟨g', hl1, _, hl2⟩ := hl
          rw [hl1]
          exact ptr_ne hl2.lt
        · obtain ⟨g', hl1, _, hl2⟩ := hl
          rw [hl1]
          exact ptr_ne hl2.lt)))
    · intro f w1 hS hf
      generalize hA : putAll _ _ f = aA
      exact flw_wpA rfl rfl (fun K hK => wp_alloc_row 28 rfl (aggC zC) (fun w => by kernel_rfl) (hK _ _ (hS.alloc hS.size _) (Flz.al _ _) ⟨_, updF_self _ _ _, hS.size, Has.made' _ _ _ _ rfl⟩ (by
        intro i hi hne hl
        simp only [List.mem_cons, List.not_mem_nil, or_false] at hi
        rcases hi with rfl | rfl | rfl
        · obtain ⟨g', hl1, _, hl2⟩ := hl
          rw [hl1]
          exact ptr_ne hl2.lt
        · exact absurd rfl hne
        · obtain ⟨g', hl1, _, hl2⟩ := hl
          rw [hl1]
          exact ptr_ne hl2.lt)))
    · intro f w1 hS hf
      generalize hA : putAll _ _ f = aA
      exact flw_wpA rfl rfl (fun K hK => wp_alloc_row 28 rfl (aggC zC) (fun w => by kernel_rfl) (hK _ _ (hS.alloc hS.size _) (Flz.al _ _) ⟨_, updF_self _ _ _, hS.size, Has.made' _ _ _ _ rfl⟩ (by
        intro i hi hne hl
        simp only [List.mem_cons, List.not_mem_nil, or_false] at hi
        rcases hi with rfl | rfl | rfl
        · obtain ⟨g', hl1, _, hl2⟩ := hl
          rw [hl1]
          exact ptr_ne hl2.lt
        · obtain ⟨g', hl1, _, hl2⟩ := hl
          rw [hl1]
          exact ptr_ne hl2.lt
        · exact absurd rfl hne)))
  intro f u5 hS hf hap
  have h0 : f 0 = aggC zC := hf 0 (by decide)
  have h1 : f 1 = aggC zC := hf 1 (by decide)
  have h2 : f 2 = aggC zC := hf 2 (by decide)
  obtain ⟨b5_3, h3, hgb3, hhb3⟩ := hf 3 (by decide)
  obtain ⟨b5_4, h4, hgb4, hhb4⟩ := hf 4 (by decide)
  obtain ⟨b5_5, h5, hgb5, hhb5⟩ := hf 5 (by decide)
  have hne3_4 : b5_3 ≠ b5_4 := fun e => hap 3 (by decide) 4 (by decide) (by decide) (by rw [h3, h4, e])
  have hne3_5 : b5_3 ≠ b5_5 := fun e => hap 3 (by decide) 5 (by decide) (by decide) (by rw [h3, h5, e])
  have hne4_5 : b5_4 ≠ b5_5 := fun e => hap 4 (by decide) 5 (by decide) (by decide) (by rw [h4, h5, e])
  clear hf hap
  clear zsz
  subst ha0
  simp only [slotsCm5, putAll, h0, h1, h2, h3, h4, h5, Act.put, List.setIfInBounds_toArray, List.set_cons_zero, List.set_cons_succ]
  clear h0 h1 h2 h3 h4 h5
  refine tl_store rfl (by kernel_rfl) 28 (.tmp 5) (.tmp 20) rfl b5_3 (encC zC) _ rfl rfl _ hhb3 (by rw [encC_len]; kernel_rfl) (by simp only [encC_len]) (encC_ones _) ?_
  intro w5_1 hp3 hbl hot
  replace hS := hS.trans (hbl _ hgb3)
  replace hhb4 := (hot _ (Ne.symm hne3_4)).trans hhb4
  replace hhb5 := (hot _ (Ne.symm hne3_5)).trans hhb5
  clear hbl hot hhb3
  try simp only [Act.put]
  refine tl_store rfl (by kernel_rfl) 28 (.tmp 6) (.tmp 21) rfl b5_4 (encC zC) _ rfl rfl _ hhb4 (by rw [encC_len]; kernel_rfl) (by simp only [encC_len]) (encC_ones _) ?_
  intro w5_2 hp4 hbl hot
  replace hS := hS.trans (hbl _ hgb4)
  replace hp3 := (hot _ hne3_4).trans hp3
  replace hhb5 := (hot _ (Ne.symm hne4_5)).trans hhb5
  clear hbl hot hhb4
  try simp only [Act.put]
  refine tl_store rfl (by kernel_rfl) 28 (.tmp 7) (.tmp 22) rfl b5_5 (encC zC) _ rfl rfl _ hhb5 (by rw [encC_len]; kernel_rfl) (by simp only [encC_len]) (encC_ones _) ?_
  intro w5 hp5 hbl hot
  replace hS := hS.trans (hbl _ hgb5)
  replace hp3 := (hot _ hne3_5).trans hp3
  replace hp4 := (hot _ hne4_5).trans hp4
  clear hbl hot hhb5
  try simp only [Act.put]
  refine tl_nil ?_
  have HBW := Lib.hid HB.out.size
  replace HB := Lib.hid (HB.out.trans (hS.mono HB.out.size))
  clear hS
  have HGb5_3 : Hid (w.heap.size ≤ b5_3) := Lib.hid (Nat.le_trans HBW.out hgb3)
  have HX_b5_3 : Hid (Has w5 b5_3 28 (encC zC)) := Lib.hid hp3
  clear hp3 hgb3
  have HGb5_4 : Hid (w.heap.size ≤ b5_4) := Lib.hid (Nat.le_trans HBW.out hgb4)
  have HX_b5_4 : Hid (Has w5 b5_4 28 (encC zC)) := Lib.hid hp4
  clear hp4 hgb4
  have HGb5_5 : Hid (w.heap.size ≤ b5_5) := Lib.hid (Nat.le_trans HBW.out hgb5)
  have HX_b5_5 : Hid (Has w5 b5_5 28 (encC zC)) := Lib.hid hp5
  clear hp5 hgb5
  clear HBW
  have HNE_b5_3_b5_4 := Lib.hid hne3_4
  clear hne3_4
  have HNE_b5_3_b5_5 := Lib.hid hne3_5
  clear hne3_5
  have HNE_b5_4_b5_5 := Lib.hid hne4_5
  clear hne4_5
  go_wp2_with fail
  go_loopw [8] (fun v wr => ∃ k : Nat, k ≤ na ∧ v = .int .i64 k ∧ Has wr b5_3 28 (encC (putL zC (A.take k))) ∧ Has wr b5_4 28 (encC (zC)) ∧ Has wr b5_5 28 (encC (putL zC (A.take k))) ∧ Below w.heap.size w wr) (fun v _ => na - (intOf v).toNat)
  case atStart => exact ⟨0, by omega, rfl, HX_b5_3.out, HX_b5_4.out, HX_b5_5.out, HB.out⟩
  case round =>
    clear HX_b5_3 HX_b5_4 HX_b5_5 HB
    rename_i wr
    obtain ⟨k, hk, rfl, hx1, hx2, hx3, hB⟩ := hrel
    have HX_b5_3 := Lib.hid hx1
    have HX_b5_4 := Lib.hid hx2
    have HX_b5_5 := Lib.hid hx3
    have HB := Lib.hid hB
    clear hx1 hx2 hx3 hB
    by_cases hlt : k < na
    · have hkL : k < A.length := by rw [HNA.out]; exact hlt
      obtain ⟨aa, rfl, _, hc⟩ := Ss.el HSA.out hkL
      have HTK : Hid (A.take (k + 1) = A.take k ++ [A[k]]) := Lib.hid (List.take_succ_eq_append_getElem hkL)
      have HEL : Hid (∀ w', Below w.heap.size w w' → ∀ j u, (encU A[k])[j]? = some u → w'.cell? ((aa.add (k * 32)).add j) = some u) := Lib.hid hc
      clear hc
      generalize A[k] = x at *
      have k3 : (k : Int) < (na : Int) := by omega
      go_upto_region 9 with fail
      have HST : Hid (Below wr.heap.size wr wr.drew) := Lib.hid (Below.refl _ _).drew
      replace HX_b5_3 := Lib.hid (HX_b5_3.out.keepB HST.out)
      replace HX_b5_4 := Lib.hid (HX_b5_4.out.keepB HST.out)
      replace HX_b5_5 := Lib.hid (HX_b5_5.out.keepB HST.out)
      replace HB := Lib.hid (HB.out.trans (HST.out.mono HB.out.size))
      clear HST
      refine wp_act (fun a0 ha0 => ?_)
      have zsz : a0.tmps.size = 77 := by rw [ha0]; rfl
      have z5 : a0.eval (.tmp 5) = .pointer (some ⟨b5_3, 0, none⟩) := by rw [ha0]; rfl
      have z0 : a0.eval (.tmp 0) = .slice (some aa) na ca := by rw [ha0]; rfl
      have z8 : a0.eval (.tmp 8) = .int .i64 ((k : Int)) := by rw [ha0]; rfl
      refine wp_region_flw (E := Flz) [] slotsCm9 waitCm9 [Fct.val Flz 0 (aggC (putL zC (A.take k))), Fct.val Flz 1 (.slice (some aa) na ca), Fct.val Flz 2 (.int .i64 ((k : Int))), Fct.val Flz 3 (.pointer (some (aa.add (k * 32)))), Fct.val Flz 4 (.agg (encU x).toArray), Fct.val Flz 5 (aggC (putC (putL zC (A.take k)) x))] (fun w' => Below wr.drew.heap.size wr.drew w') _ 6 1 chkCm9 (by kernel_rfl) rfl (by kernel_rfl) (by kernel_rfl) (by decide) (Below.refl _ _) ?_ ?_
      · refine lt_s (lt_s (lt_s (lt_s (lt_s (lt_s (lt_0) ?_) ?_) ?_) ?_) ?_) ?_
        · intro f w1 hS hf
          generalize hA : putAll _ _ f = aA
          have r5 : aA.eval (.tmp 5) = .pointer (some ⟨b5_3, 0, none⟩) := by rw [← hA]; exact putAll_off f 5 slotsCm9 a0 (by kernel_rfl) z5
          exact flw_val rfl rfl (aggC (putL zC (A.take k))) (ex_loadR 28 (.tmp 5) rfl ⟨b5_3, 0, none⟩ r5 (fun _ => by kernel_rfl) (encC (putL zC (A.take k))) (by rw [encC_len]; kernel_rfl) ((HX_b5_3.out.keepB hS).part (encC (putL zC (A.take k))) 0 (encC_all (putL zC (A.take k))))) hS (Flz.refl _) (updF_self _ _ _)
        · intro f w1 hS hf
          generalize hA : putAll _ _ f = aA
          have r0 : aA.eval (.tmp 0) = .slice (some aa) na ca := by rw [← hA]; exact putAll_off f 0 slotsCm9 a0 (by kernel_rfl) z0
          exact flw_val rfl rfl (.slice (some aa) na ca) (ex_move (.tmp 0) rfl r0) hS (Flz.refl _) (updF_self _ _ _)
        · intro f w1 hS hf
          generalize hA : putAll _ _ f = aA
          have r8 : aA.eval (.tmp 8) = .int .i64 ((k : Int)) := by rw [← hA]; exact putAll_off f 8 slotsCm9 a0 (by kernel_rfl) z8
          exact flw_val rfl rfl (.int .i64 ((k : Int))) (ex_move (.tmp 8) rfl r8) hS (Flz.refl _) (updF_self _ _ _)
        · intro f w1 hS hf
          generalize hA : putAll _ _ f = aA
          have h30 : f 1 = .slice (some aa) na ca := hf 1 (by decide)
          have r30 : aA.eval (.tmp 30) = .slice (some aa) na ca := by rw [← hA]; exact putAll_at f 30 1 slotsCm9 a0 sbCm9 (by kernel_rfl) zsz rfl h30
          have h31 : f 2 = .int .i64 ((k : Int)) := hf 2 (by decide)
          have r31 : aA.eval (.tmp 31) = .int .i64 ((k : Int)) := by rw [← hA]; exact putAll_at f 31 2 slotsCm9 a0 sbCm9 (by kernel_rfl) zsz rfl h31
          exact flw_val rfl rfl (.pointer (some (aa.add (k * 32)))) (ex_indexS 44 23 (.tmp 30) (.tmp 31) rfl aa na ca k 32 (by kernel_rfl) (fun _ => by kernel_rfl) r30 r31 hlt) hS (Flz.refl _) (updF_self _ _ _)
        · intro f w1 hS hf
          generalize hA : putAll _ _ f = aA
          have h32 : f 3 = .pointer (some (aa.add (k * 32))) := hf 3 (by decide)
          have r32 : aA.eval (.tmp 32) = .pointer (some (aa.add (k * 32))) := by rw [← hA]; exact putAll_at f 32 3 slotsCm9 a0 sbCm9 (by kernel_rfl) zsz rfl h32
          exact flw_val rfl rfl (.agg (encU x).toArray) (ex_loadR 23 (.tmp 32) rfl (aa.add (k * 32)) r32 (fun _ => by kernel_rfl) (encU x) (by rw [encU_len]; kernel_rfl) (HEL.out w1 (HB.out.trans (hS.mono HB.out.size)))) hS (Flz.refl _) (updF_self _ _ _)
        · intro f w1 hS hf
          generalize hA : putAll _ _ f = aA
          have h29 : f 0 = aggC (putL zC (A.take k)) := hf 0 (by decide)
          have r29 : aA.eval (.tmp 29) = aggC (putL zC (A.take k)) := by rw [← hA]; exact putAll_at f 29 0 slotsCm9 a0 sbCm9 (by kernel_rfl) zsz rfl h29
          have h33 : f 4 = .agg (encU x).toArray := hf 4 (by decide)
          have r33 : aA.eval (.tmp 33) = .agg (encU x).toArray := by rw [← hA]; exact putAll_at f 33 4 slotsCm9 a0 sbCm9 (by kernel_rfl) zsz rfl h33
          exact flw_call rfl rfl 11 #[(.tmp 29), (.tmp 33)] _ rfl #[aggC (putL zC (A.take k)), .agg (encU x).toArray] (by simp only [List.map_toArray, List.map_cons, List.map_nil, r29, r33]) (fun w => by kernel_rfl) (fun v _ => v = aggC (putC (putL zC (A.take k)) x)) (put_any (putL zC (A.take k)) x w1 (HL.out.keep (HB.out.trans (hS.mono HB.out.size)) HSZ.out)) (fun v w' hr hb => ⟨hS.trans (hb.mono hS.size), Flz.of hb, (updF_self _ _ _).trans hr⟩)
      intro f u9 hS hf hap
      have h0 : f 0 = aggC (putL zC (A.take k)) := hf 0 (by decide)
      have h1 : f 1 = .slice (some aa) na ca := hf 1 (by decide)
      have h2 : f 2 = .int .i64 ((k : Int)) := hf 2 (by decide)
      have h3 : f 3 = .pointer (some (aa.add (k * 32))) := hf 3 (by decide)
      have h4 : f 4 = .agg (encU x).toArray := hf 4 (by decide)
      have h5 : f 5 = aggC (putC (putL zC (A.take k)) x) := hf 5 (by decide)
      clear hf hap
      clear zsz z5 z0 z8
      subst ha0
      simp only [slotsCm9, putAll, h0, h1, h2, h3, h4, h5, Act.put, List.setIfInBounds_toArray, List.set_cons_zero, List.set_cons_succ]
      clear h0 h1 h2 h3 h4 h5
      have hBS := HB.out.trans (hS.mono HB.out.size)
      replace HX_b5_3 := Lib.hid (HX_b5_3.out.keepB hS)
      replace HX_b5_4 := Lib.hid (HX_b5_4.out.keepB hS)
      replace HX_b5_5 := Lib.hid (HX_b5_5.out.keepB hS)
      clear hS
      refine tl_store rfl (by kernel_rfl) 28 (.tmp 5) (.tmp 34) rfl b5_3 (encC (putC (putL zC (A.take k)) x)) _ rfl rfl _ HX_b5_3.out (by rw [encC_len]; kernel_rfl) (by simp only [encC_len]) (encC_ones _) ?_
      intro w9 hp hbl hot
      replace HX_b5_4 : Hid (Has w9 b5_4 28 (encC zC)) := Lib.hid ((hot _ (Ne.symm HNE_b5_3_b5_4.out)).trans HX_b5_4.out)
      replace HX_b5_5 : Hid (Has w9 b5_5 28 (encC (putL zC (A.take k)))) := Lib.hid ((hot _ (Ne.symm HNE_b5_3_b5_5.out)).trans HX_b5_5.out)
      replace HX_b5_3 : Hid (Has w9 b5_3 28 (encC (putC (putL zC (A.take k)) x))) := Lib.hid hp
      replace hBS := hBS.trans (hbl _ HGb5_3.out)
      clear hp hbl hot
      try simp only [Act.put]
      refine tl_nilN ?_
      replace HB := Lib.hid hBS
      clear hBS
      go_upto_region 10 with fail
      have HST : Hid (Below w9.heap.size w9 w9.drew) := Lib.hid (Below.refl _ _).drew
      replace HX_b5_3 := Lib.hid (HX_b5_3.out.keepB HST.out)
      replace HX_b5_4 := Lib.hid (HX_b5_4.out.keepB HST.out)
      replace HX_b5_5 := Lib.hid (HX_b5_5.out.keepB HST.out)
      replace HB := Lib.hid (HB.out.trans (HST.out.mono HB.out.size))
      clear HST
      refine wp_act (fun a0 ha0 => ?_)
      have zsz : a0.tmps.size = 77 := by rw [ha0]; rfl
      have z7 : a0.eval (.tmp 7) = .pointer (some ⟨b5_5, 0, none⟩) := by rw [ha0]; rfl
      have z0 : a0.eval (.tmp 0) = .slice (some aa) na ca := by rw [ha0]; rfl
      have z8 : a0.eval (.tmp 8) = .int .i64 ((k : Int)) := by rw [ha0]; rfl
      refine wp_region_flw (E := Flz) [] slotsCm10 waitCm10 [Fct.val Flz 0 (aggC (putL zC (A.take k))), Fct.val Flz 1 (.slice (some aa) na ca), Fct.val Flz 2 (.int .i64 ((k : Int))), Fct.val Flz 3 (.pointer (some (aa.add (k * 32)))), Fct.val Flz 4 (.agg (encU x).toArray), Fct.val Flz 5 (aggC (putC (putL zC (A.take k)) x))] (fun w' => Below w9.drew.heap.size w9.drew w') _ 6 1 chkCm10 (by kernel_rfl) rfl (by kernel_rfl) (by kernel_rfl) (by decide) (Below.refl _ _) ?_ ?_
      · refine lt_s (lt_s (lt_s (lt_s (lt_s (lt_s (lt_0) ?_) ?_) ?_) ?_) ?_) ?_
        · intro f w1 hS hf
          generalize hA : putAll _ _ f = aA
          have r7 : aA.eval (.tmp 7) = .pointer (some ⟨b5_5, 0, none⟩) := by rw [← hA]; exact putAll_off f 7 slotsCm10 a0 (by kernel_rfl) z7
          exact flw_val rfl rfl (aggC (putL zC (A.take k))) (ex_loadR 28 (.tmp 7) rfl ⟨b5_5, 0, none⟩ r7 (fun _ => by kernel_rfl) (encC (putL zC (A.take k))) (by rw [encC_len]; kernel_rfl) ((HX_b5_5.out.keepB hS).part (encC (putL zC (A.take k))) 0 (encC_all (putL zC (A.take k))))) hS (Flz.refl _) (updF_self _ _ _)
        · intro f w1 hS hf
          generalize hA : putAll _ _ f = aA
          have r0 : aA.eval (.tmp 0) = .slice (some aa) na ca := by rw [← hA]; exact putAll_off f 0 slotsCm10 a0 (by kernel_rfl) z0
          exact flw_val rfl rfl (.slice (some aa) na ca) (ex_move (.tmp 0) rfl r0) hS (Flz.refl _) (updF_self _ _ _)
        · intro f w1 hS hf
          generalize hA : putAll _ _ f = aA
          have r8 : aA.eval (.tmp 8) = .int .i64 ((k : Int)) := by rw [← hA]; exact putAll_off f 8 slotsCm10 a0 (by kernel_rfl) z8
          exact flw_val rfl rfl (.int .i64 ((k : Int))) (ex_move (.tmp 8) rfl r8) hS (Flz.refl _) (updF_self _ _ _)
        · intro f w1 hS hf
          generalize hA : putAll _ _ f = aA
          have h36 : f 1 = .slice (some aa) na ca := hf 1 (by decide)
          have r36 : aA.eval (.tmp 36) = .slice (some aa) na ca := by rw [← hA]; exact putAll_at f 36 1 slotsCm10 a0 sbCm10 (by kernel_rfl) zsz rfl h36
          have h37 : f 2 = .int .i64 ((k : Int)) := hf 2 (by decide)
          have r37 : aA.eval (.tmp 37) = .int .i64 ((k : Int)) := by rw [← hA]; exact putAll_at f 37 2 slotsCm10 a0 sbCm10 (by kernel_rfl) zsz rfl h37
          exact flw_val rfl rfl (.pointer (some (aa.add (k * 32)))) (ex_indexS 44 23 (.tmp 36) (.tmp 37) rfl aa na ca k 32 (by kernel_rfl) (fun _ => by kernel_rfl) r36 r37 hlt) hS (Flz.refl _) (updF_self _ _ _)
        · intro f w1 hS hf
          generalize hA : putAll _ _ f = aA
          have h38 : f 3 = .pointer (some (aa.add (k * 32))) := hf 3 (by decide)
          have r38 : aA.eval (.tmp 38) = .pointer (some (aa.add (k * 32))) := by rw [← hA]; exact putAll_at f 38 3 slotsCm10 a0 sbCm10 (by kernel_rfl) zsz rfl h38
          exact flw_val rfl rfl (.agg (encU x).toArray) (ex_loadR 23 (.tmp 38) rfl (aa.add (k * 32)) r38 (fun _ => by kernel_rfl) (encU x) (by rw [encU_len]; kernel_rfl) (HEL.out w1 (HB.out.trans (hS.mono HB.out.size)))) hS (Flz.refl _) (updF_self _ _ _)
        · intro f w1 hS hf
          generalize hA : putAll _ _ f = aA
          have h35 : f 0 = aggC (putL zC (A.take k)) := hf 0 (by decide)
          have r35 : aA.eval (.tmp 35) = aggC (putL zC (A.take k)) := by rw [← hA]; exact putAll_at f 35 0 slotsCm10 a0 sbCm10 (by kernel_rfl) zsz rfl h35
          have h39 : f 4 = .agg (encU x).toArray := hf 4 (by decide)
          have r39 : aA.eval (.tmp 39) = .agg (encU x).toArray := by rw [← hA]; exact putAll_at f 39 4 slotsCm10 a0 sbCm10 (by kernel_rfl) zsz rfl h39
          exact flw_call rfl rfl 11 #[(.tmp 35), (.tmp 39)] _ rfl #[aggC (putL zC (A.take k)), .agg (encU x).toArray] (by simp only [List.map_toArray, List.map_cons, List.map_nil, r35, r39]) (fun w => by kernel_rfl) (fun v _ => v = aggC (putC (putL zC (A.take k)) x)) (put_any (putL zC (A.take k)) x w1 (HL.out.keep (HB.out.trans (hS.mono HB.out.size)) HSZ.out)) (fun v w' hr hb => ⟨hS.trans (hb.mono hS.size), Flz.of hb, (updF_self _ _ _).trans hr⟩)
      intro f u10 hS hf hap
      have h0 : f 0 = aggC (putL zC (A.take k)) := hf 0 (by decide)
      have h1 : f 1 = .slice (some aa) na ca := hf 1 (by decide)
      have h2 : f 2 = .int .i64 ((k : Int)) := hf 2 (by decide)
      have h3 : f 3 = .pointer (some (aa.add (k * 32))) := hf 3 (by decide)
      have h4 : f 4 = .agg (encU x).toArray := hf 4 (by decide)
      have h5 : f 5 = aggC (putC (putL zC (A.take k)) x) := hf 5 (by decide)
      clear hf hap
      clear zsz z7 z0 z8
      subst ha0
      simp only [slotsCm10, putAll, h0, h1, h2, h3, h4, h5, Act.put, List.setIfInBounds_toArray, List.set_cons_zero, List.set_cons_succ]
      clear h0 h1 h2 h3 h4 h5
      have hBS := HB.out.trans (hS.mono HB.out.size)
      replace HX_b5_3 := Lib.hid (HX_b5_3.out.keepB hS)
      replace HX_b5_4 := Lib.hid (HX_b5_4.out.keepB hS)
      replace HX_b5_5 := Lib.hid (HX_b5_5.out.keepB hS)
      clear hS
      refine tl_store rfl (by kernel_rfl) 28 (.tmp 7) (.tmp 40) rfl b5_5 (encC (putC (putL zC (A.take k)) x)) _ rfl rfl _ HX_b5_5.out (by rw [encC_len]; kernel_rfl) (by simp only [encC_len]) (encC_ones _) ?_
      intro w10 hp hbl hot
      replace HX_b5_3 : Hid (Has w10 b5_3 28 (encC (putC (putL zC (A.take k)) x))) := Lib.hid ((hot _ (HNE_b5_3_b5_5.out)).trans HX_b5_3.out)
      replace HX_b5_4 : Hid (Has w10 b5_4 28 (encC zC)) := Lib.hid ((hot _ (HNE_b5_4_b5_5.out)).trans HX_b5_4.out)
      replace HX_b5_5 : Hid (Has w10 b5_5 28 (encC (putC (putL zC (A.take k)) x))) := Lib.hid hp
      replace hBS := hBS.trans (hbl _ HGb5_5.out)
      clear hp hbl hot
      try simp only [Act.put]
      refine tl_nilN ?_
      replace HB := Lib.hid hBS
      clear hBS
      go_wp2_with fail
      go_roundw
      case rel => exact ⟨k + 1, by omega, by go_num, (by rw [HTK.out, putL_snoc]; exact HX_b5_3.out), HX_b5_4.out, (by rw [HTK.out, putL_snoc]; exact HX_b5_5.out), HB.out⟩
      case measure => simp [intOf]; omega
    · obtain rfl : k = na := by omega
      have k3 : ¬ (k : Int) < (k : Int) := by omega
      have HTA : Hid (A.take k = A) := Lib.hid (List.take_of_length_le (Nat.le_of_eq HNA.out))
      rw [HTA.out] at HX_b5_3 HX_b5_5
      clear HTA
      go_wp2_with fail
      go_loopw [9] (fun v wr => ∃ k : Nat, k ≤ nb ∧ v = .int .i64 k ∧ Has wr b5_3 28 (encC (putL zC A)) ∧ Has wr b5_4 28 (encC (putL zC (B.take k))) ∧ Has wr b5_5 28 (encC (takeL (putL zC A) (B.take k))) ∧ Below w.heap.size w wr) (fun v _ => nb - (intOf v).toNat)
      case atStart => exact ⟨0, by omega, rfl, HX_b5_3.out, HX_b5_4.out, HX_b5_5.out, HB.out⟩
      case round =>
        clear HX_b5_3 HX_b5_4 HX_b5_5 HB
        rename_i wr
        obtain ⟨k, hk, rfl, hx1, hx2, hx3, hB⟩ := hrel
        have HX_b5_3 := Lib.hid hx1
        have HX_b5_4 := Lib.hid hx2
        have HX_b5_5 := Lib.hid hx3
        have HB := Lib.hid hB
        clear hx1 hx2 hx3 hB
        by_cases hlt : k < nb
        · have hkL : k < B.length := by rw [HNB.out]; exact hlt
          obtain ⟨aa, rfl, _, hc⟩ := Ss.el HSB.out hkL
          have HTK : Hid (B.take (k + 1) = B.take k ++ [B[k]]) := Lib.hid (List.take_succ_eq_append_getElem hkL)
          have HEL : Hid (∀ w', Below w.heap.size w w' → ∀ j u, (encU B[k])[j]? = some u → w'.cell? ((aa.add (k * 32)).add j) = some u) := Lib.hid hc
          clear hc
          generalize B[k] = x at *
          have k3 : (k : Int) < (nb : Int) := by omega
          go_upto_region 14 with fail
          have HST : Hid (Below wr.heap.size wr wr.drew) := Lib.hid (Below.refl _ _).drew
          replace HX_b5_3 := Lib.hid (HX_b5_3.out.keepB HST.out)
          replace HX_b5_4 := Lib.hid (HX_b5_4.out.keepB HST.out)
          replace HX_b5_5 := Lib.hid (HX_b5_5.out.keepB HST.out)
          replace HB := Lib.hid (HB.out.trans (HST.out.mono HB.out.size))
          clear HST
          refine wp_act (fun a0 ha0 => ?_)
          have zsz : a0.tmps.size = 77 := by rw [ha0]; rfl
          have z6 : a0.eval (.tmp 6) = .pointer (some ⟨b5_4, 0, none⟩) := by rw [ha0]; rfl
          have z1 : a0.eval (.tmp 1) = .slice (some aa) nb cb := by rw [ha0]; rfl
          have z9 : a0.eval (.tmp 9) = .int .i64 ((k : Int)) := by rw [ha0]; rfl
          refine wp_region_flw (E := Flz) [] slotsCm14 waitCm14 [Fct.val Flz 0 (aggC (putL zC (B.take k))), Fct.val Flz 1 (.slice (some aa) nb cb), Fct.val Flz 2 (.int .i64 ((k : Int))), Fct.val Flz 3 (.pointer (some (aa.add (k * 32)))), Fct.val Flz 4 (.agg (encU x).toArray), Fct.val Flz 5 (aggC (putC (putL zC (B.take k)) x))] (fun w' => Below wr.drew.heap.size wr.drew w') _ 6 1 chkCm14 (by kernel_rfl) rfl (by kernel_rfl) (by kernel_rfl) (by decide) (Below.refl _ _) ?_ ?_
          · refine lt_s (lt_s (lt_s (lt_s (lt_s (lt_s (lt_0) ?_) ?_) ?_) ?_) ?_) ?_
            · intro f w1 hS hf
              generalize hA : putAll _ _ f = aA
              have r6 : aA.eval (.tmp 6) = .pointer (some ⟨b5_4, 0, none⟩) := by rw [← hA]; exact putAll_off f 6 slotsCm14 a0 (by kernel_rfl) z6
              exact flw_val rfl rfl (aggC (putL zC (B.take k))) (ex_loadR 28 (.tmp 6) rfl ⟨b5_4, 0, none⟩ r6 (fun _ => by kernel_rfl) (encC (putL zC (B.take k))) (by rw [encC_len]; kernel_rfl) ((HX_b5_4.out.keepB hS).part (encC (putL zC (B.take k))) 0 (encC_all (putL zC (B.take k))))) hS (Flz.refl _) (updF_self _ _ _)
            · intro f w1 hS hf
              generalize hA : putAll _ _ f = aA
              have r1 : aA.eval (.tmp 1) = .slice (some aa) nb cb := by rw [← hA]; exact putAll_off f 1 slotsCm14 a0 (by kernel_rfl) z1
              exact flw_val rfl rfl (.slice (some aa) nb cb) (ex_move (.tmp 1) rfl r1) hS (Flz.refl _) (updF_self _ _ _)
            · intro f w1 hS hf
              generalize hA : putAll _ _ f = aA
              have r9 : aA.eval (.tmp 9) = .int .i64 ((k : Int)) := by rw [← hA]; exact putAll_off f 9 slotsCm14 a0 (by kernel_rfl) z9
              exact flw_val rfl rfl (.int .i64 ((k : Int))) (ex_move (.tmp 9) rfl r9) hS (Flz.refl _) (updF_self _ _ _)
            · intro f w1 hS hf
              generalize hA : putAll _ _ f = aA
              have h48 : f 1 = .slice (some aa) nb cb := hf 1 (by decide)
              have r48 : aA.eval (.tmp 48) = .slice (some aa) nb cb := by rw [← hA]; exact putAll_at f 48 1 slotsCm14 a0 sbCm14 (by kernel_rfl) zsz rfl h48
              have h49 : f 2 = .int .i64 ((k : Int)) := hf 2 (by decide)
              have r49 : aA.eval (.tmp 49) = .int .i64 ((k : Int)) := by rw [← hA]; exact putAll_at f 49 2 slotsCm14 a0 sbCm14 (by kernel_rfl) zsz rfl h49
              exact flw_val rfl rfl (.pointer (some (aa.add (k * 32)))) (ex_indexS 44 23 (.tmp 48) (.tmp 49) rfl aa nb cb k 32 (by kernel_rfl) (fun _ => by kernel_rfl) r48 r49 hlt) hS (Flz.refl _) (updF_self _ _ _)
            · intro f w1 hS hf
              generalize hA : putAll _ _ f = aA
              have h50 : f 3 = .pointer (some (aa.add (k * 32))) := hf 3 (by decide)
              have r50 : aA.eval (.tmp 50) = .pointer (some (aa.add (k * 32))) := by rw [← hA]; exact putAll_at f 50 3 slotsCm14 a0 sbCm14 (by kernel_rfl) zsz rfl h50
              exact flw_val rfl rfl (.agg (encU x).toArray) (ex_loadR 23 (.tmp 50) rfl (aa.add (k * 32)) r50 (fun _ => by kernel_rfl) (encU x) (by rw [encU_len]; kernel_rfl) (HEL.out w1 (HB.out.trans (hS.mono HB.out.size)))) hS (Flz.refl _) (updF_self _ _ _)
            · intro f w1 hS hf
              generalize hA : putAll _ _ f = aA
              have h47 : f 0 = aggC (putL zC (B.take k)) := hf 0 (by decide)
              have r47 : aA.eval (.tmp 47) = aggC (putL zC (B.take k)) := by rw [← hA]; exact putAll_at f 47 0 slotsCm14 a0 sbCm14 (by kernel_rfl) zsz rfl h47
              have h51 : f 4 = .agg (encU x).toArray := hf 4 (by decide)
              have r51 : aA.eval (.tmp 51) = .agg (encU x).toArray := by rw [← hA]; exact putAll_at f 51 4 slotsCm14 a0 sbCm14 (by kernel_rfl) zsz rfl h51
              exact flw_call rfl rfl 11 #[(.tmp 47), (.tmp 51)] _ rfl #[aggC (putL zC (B.take k)), .agg (encU x).toArray] (by simp only [List.map_toArray, List.map_cons, List.map_nil, r47, r51]) (fun w => by kernel_rfl) (fun v _ => v = aggC (putC (putL zC (B.take k)) x)) (put_any (putL zC (B.take k)) x w1 (HL.out.keep (HB.out.trans (hS.mono HB.out.size)) HSZ.out)) (fun v w' hr hb => ⟨hS.trans (hb.mono hS.size), Flz.of hb, (updF_self _ _ _).trans hr⟩)
          intro f u14 hS hf hap
          have h0 : f 0 = aggC (putL zC (B.take k)) := hf 0 (by decide)
          have h1 : f 1 = .slice (some aa) nb cb := hf 1 (by decide)
          have h2 : f 2 = .int .i64 ((k : Int)) := hf 2 (by decide)
          have h3 : f 3 = .pointer (some (aa.add (k * 32))) := hf 3 (by decide)
          have h4 : f 4 = .agg (encU x).toArray := hf 4 (by decide)
          have h5 : f 5 = aggC (putC (putL zC (B.take k)) x) := hf 5 (by decide)
          clear hf hap
          clear zsz z6 z1 z9
          subst ha0
          simp only [slotsCm14, putAll, h0, h1, h2, h3, h4, h5, Act.put, List.setIfInBounds_toArray, List.set_cons_zero, List.set_cons_succ]
          clear h0 h1 h2 h3 h4 h5
          have hBS := HB.out.trans (hS.mono HB.out.size)
          replace HX_b5_3 := Lib.hid (HX_b5_3.out.keepB hS)
          replace HX_b5_4 := Lib.hid (HX_b5_4.out.keepB hS)
          replace HX_b5_5 := Lib.hid (HX_b5_5.out.keepB hS)
          clear hS
          refine tl_store rfl (by kernel_rfl) 28 (.tmp 6) (.tmp 52) rfl b5_4 (encC (putC (putL zC (B.take k)) x)) _ rfl rfl _ HX_b5_4.out (by rw [encC_len]; kernel_rfl) (by simp only [encC_len]) (encC_ones _) ?_
          intro w14 hp hbl hot
          replace HX_b5_3 : Hid (Has w14 b5_3 28 (encC (putL zC A))) := Lib.hid ((hot _ (HNE_b5_3_b5_4.out)).trans HX_b5_3.out)
          replace HX_b5_5 : Hid (Has w14 b5_5 28 (encC (takeL (putL zC A) (B.take k)))) := Lib.hid ((hot _ (Ne.symm HNE_b5_4_b5_5.out)).trans HX_b5_5.out)
          replace HX_b5_4 : Hid (Has w14 b5_4 28 (encC (putC (putL zC (B.take k)) x))) := Lib.hid hp
          replace hBS := hBS.trans (hbl _ HGb5_4.out)
          clear hp hbl hot
          try simp only [Act.put]
          refine tl_nilN ?_
          replace HB := Lib.hid hBS
          clear hBS
          go_upto_region 15 with fail
          have HST : Hid (Below w14.heap.size w14 w14.drew) := Lib.hid (Below.refl _ _).drew
          replace HX_b5_3 := Lib.hid (HX_b5_3.out.keepB HST.out)
          replace HX_b5_4 := Lib.hid (HX_b5_4.out.keepB HST.out)
          replace HX_b5_5 := Lib.hid (HX_b5_5.out.keepB HST.out)
          replace HB := Lib.hid (HB.out.trans (HST.out.mono HB.out.size))
          clear HST
          refine wp_act (fun a0 ha0 => ?_)
          have zsz : a0.tmps.size = 77 := by rw [ha0]; rfl
          have z7 : a0.eval (.tmp 7) = .pointer (some ⟨b5_5, 0, none⟩) := by rw [ha0]; rfl
          have z1 : a0.eval (.tmp 1) = .slice (some aa) nb cb := by rw [ha0]; rfl
          have z9 : a0.eval (.tmp 9) = .int .i64 ((k : Int)) := by rw [ha0]; rfl
          refine wp_region_flw (E := Flz) [] slotsCm15 waitCm15 [Fct.val Flz 0 (aggC (takeL (putL zC A) (B.take k))), Fct.val Flz 1 (.slice (some aa) nb cb), Fct.val Flz 2 (.int .i64 ((k : Int))), Fct.val Flz 3 (.pointer (some (aa.add (k * 32)))), Fct.val Flz 4 (.agg (encU x).toArray), Fct.val Flz 5 (aggC (takeC (takeL (putL zC A) (B.take k)) x))] (fun w' => Below w14.drew.heap.size w14.drew w') _ 6 1 chkCm15 (by kernel_rfl) rfl (by kernel_rfl) (by kernel_rfl) (by decide) (Below.refl _ _) ?_ ?_
          · refine lt_s (lt_s (lt_s (lt_s (lt_s (lt_s (lt_0) ?_) ?_) ?_) ?_) ?_) ?_
            · intro f w1 hS hf
              generalize hA : putAll _ _ f = aA
              have r7 : aA.eval (.tmp 7) = .pointer (some ⟨b5_5, 0, none⟩) := by rw [← hA]; exact putAll_off f 7 slotsCm15 a0 (by kernel_rfl) z7
              exact flw_val rfl rfl (aggC (takeL (putL zC A) (B.take k))) (ex_loadR 28 (.tmp 7) rfl ⟨b5_5, 0, none⟩ r7 (fun _ => by kernel_rfl) (encC (takeL (putL zC A) (B.take k))) (by rw [encC_len]; kernel_rfl) ((HX_b5_5.out.keepB hS).part (encC (takeL (putL zC A) (B.take k))) 0 (encC_all (takeL (putL zC A) (B.take k))))) hS (Flz.refl _) (updF_self _ _ _)
            · intro f w1 hS hf
              generalize hA : putAll _ _ f = aA
              have r1 : aA.eval (.tmp 1) = .slice (some aa) nb cb := by rw [← hA]; exact putAll_off f 1 slotsCm15 a0 (by kernel_rfl) z1
              exact flw_val rfl rfl (.slice (some aa) nb cb) (ex_move (.tmp 1) rfl r1) hS (Flz.refl _) (updF_self _ _ _)
            · intro f w1 hS hf
              generalize hA : putAll _ _ f = aA
              have r9 : aA.eval (.tmp 9) = .int .i64 ((k : Int)) := by rw [← hA]; exact putAll_off f 9 slotsCm15 a0 (by kernel_rfl) z9
              exact flw_val rfl rfl (.int .i64 ((k : Int))) (ex_move (.tmp 9) rfl r9) hS (Flz.refl _) (updF_self _ _ _)
            · intro f w1 hS hf
              generalize hA : putAll _ _ f = aA
              have h54 : f 1 = .slice (some aa) nb cb := hf 1 (by decide)
              have r54 : aA.eval (.tmp 54) = .slice (some aa) nb cb := by rw [← hA]; exact putAll_at f 54 1 slotsCm15 a0 sbCm15 (by kernel_rfl) zsz rfl h54
              have h55 : f 2 = .int .i64 ((k : Int)) := hf 2 (by decide)
              have r55 : aA.eval (.tmp 55) = .int .i64 ((k : Int)) := by rw [← hA]; exact putAll_at f 55 2 slotsCm15 a0 sbCm15 (by kernel_rfl) zsz rfl h55
              exact flw_val rfl rfl (.pointer (some (aa.add (k * 32)))) (ex_indexS 44 23 (.tmp 54) (.tmp 55) rfl aa nb cb k 32 (by kernel_rfl) (fun _ => by kernel_rfl) r54 r55 hlt) hS (Flz.refl _) (updF_self _ _ _)
            · intro f w1 hS hf
              generalize hA : putAll _ _ f = aA
              have h56 : f 3 = .pointer (some (aa.add (k * 32))) := hf 3 (by decide)
              have r56 : aA.eval (.tmp 56) = .pointer (some (aa.add (k * 32))) := by rw [← hA]; exact putAll_at f 56 3 slotsCm15 a0 sbCm15 (by kernel_rfl) zsz rfl h56
              exact flw_val rfl rfl (.agg (encU x).toArray) (ex_loadR 23 (.tmp 56) rfl (aa.add (k * 32)) r56 (fun _ => by kernel_rfl) (encU x) (by rw [encU_len]; kernel_rfl) (HEL.out w1 (HB.out.trans (hS.mono HB.out.size)))) hS (Flz.refl _) (updF_self _ _ _)
            · intro f w1 hS hf
              generalize hA : putAll _ _ f = aA
              have h53 : f 0 = aggC (takeL (putL zC A) (B.take k)) := hf 0 (by decide)
              have r53 : aA.eval (.tmp 53) = aggC (takeL (putL zC A) (B.take k)) := by rw [← hA]; exact putAll_at f 53 0 slotsCm15 a0 sbCm15 (by kernel_rfl) zsz rfl h53
              have h57 : f 4 = .agg (encU x).toArray := hf 4 (by decide)
              have r57 : aA.eval (.tmp 57) = .agg (encU x).toArray := by rw [← hA]; exact putAll_at f 57 4 slotsCm15 a0 sbCm15 (by kernel_rfl) zsz rfl h57
              exact flw_call rfl rfl 14 #[(.tmp 53), (.tmp 57)] _ rfl #[aggC (takeL (putL zC A) (B.take k)), .agg (encU x).toArray] (by simp only [List.map_toArray, List.map_cons, List.map_nil, r53, r57]) (fun w => by kernel_rfl) (fun v _ => v = aggC (takeC (takeL (putL zC A) (B.take k)) x)) (take_any (takeL (putL zC A) (B.take k)) x w1 (HL.out.keep (HB.out.trans (hS.mono HB.out.size)) HSZ.out)) (fun v w' hr hb => ⟨hS.trans (hb.mono hS.size), Flz.of hb, (updF_self _ _ _).trans hr⟩)
          intro f u15 hS hf hap
          have h0 : f 0 = aggC (takeL (putL zC A) (B.take k)) := hf 0 (by decide)
          have h1 : f 1 = .slice (some aa) nb cb := hf 1 (by decide)
          have h2 : f 2 = .int .i64 ((k : Int)) := hf 2 (by decide)
          have h3 : f 3 = .pointer (some (aa.add (k * 32))) := hf 3 (by decide)
          have h4 : f 4 = .agg (encU x).toArray := hf 4 (by decide)
          have h5 : f 5 = aggC (takeC (takeL (putL zC A) (B.take k)) x) := hf 5 (by decide)
          clear hf hap
          clear zsz z7 z1 z9
          subst ha0
          simp only [slotsCm15, putAll, h0, h1, h2, h3, h4, h5, Act.put, List.setIfInBounds_toArray, List.set_cons_zero, List.set_cons_succ]
          clear h0 h1 h2 h3 h4 h5
          have hBS := HB.out.trans (hS.mono HB.out.size)
          replace HX_b5_3 := Lib.hid (HX_b5_3.out.keepB hS)
          replace HX_b5_4 := Lib.hid (HX_b5_4.out.keepB hS)
          replace HX_b5_5 := Lib.hid (HX_b5_5.out.keepB hS)
          clear hS
          refine tl_store rfl (by kernel_rfl) 28 (.tmp 7) (.tmp 58) rfl b5_5 (encC (takeC (takeL (putL zC A) (B.take k)) x)) _ rfl rfl _ HX_b5_5.out (by rw [encC_len]; kernel_rfl) (by simp only [encC_len]) (encC_ones _) ?_
          intro w15 hp hbl hot
          replace HX_b5_3 : Hid (Has w15 b5_3 28 (encC (putL zC A))) := Lib.hid ((hot _ (HNE_b5_3_b5_5.out)).trans HX_b5_3.out)
          replace HX_b5_4 : Hid (Has w15 b5_4 28 (encC (putC (putL zC (B.take k)) x))) := Lib.hid ((hot _ (HNE_b5_4_b5_5.out)).trans HX_b5_4.out)
          replace HX_b5_5 : Hid (Has w15 b5_5 28 (encC (takeC (takeL (putL zC A) (B.take k)) x))) := Lib.hid hp
          replace hBS := hBS.trans (hbl _ HGb5_5.out)
          clear hp hbl hot
          try simp only [Act.put]
          refine tl_nilN ?_
          replace HB := Lib.hid hBS
          clear hBS
          go_wp2_with fail
          go_roundw
          case rel => exact ⟨k + 1, by omega, by go_num, HX_b5_3.out, (by rw [HTK.out, putL_snoc]; exact HX_b5_4.out), (by rw [HTK.out, takeL_snoc]; exact HX_b5_5.out), HB.out⟩
          case measure => simp [intOf]; omega
        · obtain rfl : k = nb := by omega
          have k3 : ¬ (k : Int) < (k : Int) := by omega
          have HTA : Hid (B.take k = B) := Lib.hid (List.take_of_length_le (Nat.le_of_eq HNB.out))
          rw [HTA.out] at HX_b5_4 HX_b5_5
          clear HTA
          go_upto_region 16 with fail
          have HST : Hid (Below wr.heap.size wr wr.drew) := Lib.hid (Below.refl _ _).drew
          replace HX_b5_3 := Lib.hid (HX_b5_3.out.keepB HST.out)
          replace HX_b5_4 := Lib.hid (HX_b5_4.out.keepB HST.out)
          replace HX_b5_5 := Lib.hid (HX_b5_5.out.keepB HST.out)
          replace HB := Lib.hid (HB.out.trans (HST.out.mono HB.out.size))
          clear HST
          refine wp_act (fun a0 ha0 => ?_)
          have zsz : a0.tmps.size = 77 := by rw [ha0]; rfl
          have z5 : a0.eval (.tmp 5) = .pointer (some ⟨b5_3, 0, none⟩) := by rw [ha0]; rfl
          have z6 : a0.eval (.tmp 6) = .pointer (some ⟨b5_4, 0, none⟩) := by rw [ha0]; rfl
          have z7 : a0.eval (.tmp 7) = .pointer (some ⟨b5_5, 0, none⟩) := by rw [ha0]; rfl
          refine wp_region_flw (E := Flz) [] slotsCm16 waitCm16 [Fct.val Flz 0 (aggC (putL zC A)), Fct.val Flz 1 (aggC (putL zC B)), Fct.val Flz 2 (aggC (minusC (putL zC A) (putL zC B))), Fct.val Flz 3 (aggC (takeL (putL zC A) B)), Fct.val Flz 4 (.bool true), Fct.val Flz 5 (.bool true), Fct.val Flz 6 (aggC (putL zC A)), Fct.val Flz 7 (aggC (putL zC A)), Fct.val Flz 8 (aggC (minusC (putL zC A) (putL zC A))), Fct.val Flz 9 (.bool true), Fct.val Flz 10 (.bool true), Fct.val Flz 11 (.bool true), Fct.val Flz 12 (aggC (putL zC A)), Fct.val Flz 13 (aggC zC), Fct.val Flz 14 (aggC (minusC (putL zC A) zC)), Fct.val Flz 15 (aggC (putL zC A)), Fct.val Flz 16 (.bool true), Fct.val Flz 17 (.bool true), Fct.val Flz 18 (.bool true)] (fun w' => Below wr.drew.heap.size wr.drew w') _ 19 0 chkCm16 (by kernel_rfl) rfl (by kernel_rfl) (by kernel_rfl) (by decide) (Below.refl _ _) ?_ ?_
          · refine lt_s (lt_s (lt_s (lt_s (lt_s (lt_s (lt_s (lt_s (lt_s (lt_s (lt_s (lt_s (lt_s (lt_s (lt_s (lt_s (lt_s (lt_s (lt_s (lt_0) ?_) ?_) ?_) ?_) ?_) ?_) ?_) ?_) ?_) ?_) ?_) ?_) ?_) ?_) ?_) ?_) ?_) ?_) ?_
            · intro f w1 hS hf
              generalize hA : putAll _ _ f = aA
              have r5 : aA.eval (.tmp 5) = .pointer (some ⟨b5_3, 0, none⟩) := by rw [← hA]; exact putAll_off f 5 slotsCm16 a0 (by kernel_rfl) z5
              exact flw_val rfl rfl (aggC (putL zC A)) (ex_loadR 28 (.tmp 5) rfl ⟨b5_3, 0, none⟩ r5 (fun _ => by kernel_rfl) (encC (putL zC A)) (by rw [encC_len]; kernel_rfl) ((HX_b5_3.out.keepB hS).part (encC (putL zC A)) 0 (encC_all (putL zC A)))) hS (Flz.refl _) (updF_self _ _ _)
            · intro f w1 hS hf
              generalize hA : putAll _ _ f = aA
              have r6 : aA.eval (.tmp 6) = .pointer (some ⟨b5_4, 0, none⟩) := by rw [← hA]; exact putAll_off f 6 slotsCm16 a0 (by kernel_rfl) z6
              exact flw_val rfl rfl (aggC (putL zC B)) (ex_loadR 28 (.tmp 6) rfl ⟨b5_4, 0, none⟩ r6 (fun _ => by kernel_rfl) (encC (putL zC B)) (by rw [encC_len]; kernel_rfl) ((HX_b5_4.out.keepB hS).part (encC (putL zC B)) 0 (encC_all (putL zC B)))) hS (Flz.refl _) (updF_self _ _ _)
            · intro f w1 hS hf
              generalize hA : putAll _ _ f = aA
              have h59 : f 0 = aggC (putL zC A) := hf 0 (by decide)
              have r59 : aA.eval (.tmp 59) = aggC (putL zC A) := by rw [← hA]; exact putAll_at f 59 0 slotsCm16 a0 sbCm16 (by kernel_rfl) zsz rfl h59
              have h60 : f 1 = aggC (putL zC B) := hf 1 (by decide)
              have r60 : aA.eval (.tmp 60) = aggC (putL zC B) := by rw [← hA]; exact putAll_at f 60 1 slotsCm16 a0 sbCm16 (by kernel_rfl) zsz rfl h60
              exact flw_call rfl rfl 13 #[(.tmp 59), (.tmp 60)] _ rfl #[aggC (putL zC A), aggC (putL zC B)] (by simp only [List.map_toArray, List.map_cons, List.map_nil, r59, r60]) (fun w => by kernel_rfl) (fun v _ => v = aggC (minusC (putL zC A) (putL zC B))) (minus_any (putL zC A) (putL zC B) w1) (fun v w' hr hb => ⟨hS.trans (hb.mono hS.size), Flz.of hb, (updF_self _ _ _).trans hr⟩)
            · intro f w1 hS hf
              generalize hA : putAll _ _ f = aA
              have r7 : aA.eval (.tmp 7) = .pointer (some ⟨b5_5, 0, none⟩) := by rw [← hA]; exact putAll_off f 7 slotsCm16 a0 (by kernel_rfl) z7
              exact flw_val rfl rfl (aggC (takeL (putL zC A) B)) (ex_loadR 28 (.tmp 7) rfl ⟨b5_5, 0, none⟩ r7 (fun _ => by kernel_rfl) (encC (takeL (putL zC A) B)) (by rw [encC_len]; kernel_rfl) ((HX_b5_5.out.keepB hS).part (encC (takeL (putL zC A) B)) 0 (encC_all (takeL (putL zC A) B)))) hS (Flz.refl _) (updF_self _ _ _)
            · intro f w1 hS hf
              generalize hA : putAll _ _ f = aA
              have h61 : f 2 = aggC (minusC (putL zC A) (putL zC B)) := hf 2 (by decide)
              have r61 : aA.eval (.tmp 61) = aggC (minusC (putL zC A) (putL zC B)) := by rw [← hA]; exact putAll_at f 61 2 slotsCm16 a0 sbCm16 (by kernel_rfl) zsz rfl h61
              have h62 : f 3 = aggC (takeL (putL zC A) B) := hf 3 (by decide)
              have r62 : aA.eval (.tmp 62) = aggC (takeL (putL zC A) B) := by rw [← hA]; exact putAll_at f 62 3 slotsCm16 a0 sbCm16 (by kernel_rfl) zsz rfl h62
              exact flw_val rfl rfl (.bool true) (Eq.trans (eqlC (.tmp 61) (.tmp 62) _ rfl (minusC (putL zC A) (putL zC B)) (takeL (putL zC A) B) r61 r62) (by rw [(decide_eq_true (cm_1 A B))])) hS (Flz.refl _) (updF_self _ _ _)
            · intro f w1 hS hf
              generalize hA : putAll _ _ f = aA
              have h63 : f 4 = .bool true := hf 4 (by decide)
              have r63 : aA.eval (.tmp 63) = .bool true := by rw [← hA]; exact putAll_at f 63 4 slotsCm16 a0 sbCm16 (by kernel_rfl) zsz rfl h63
              exact flw_val rfl rfl (.bool true) (ex_move (.tmp 63) rfl r63) hS (Flz.refl _) (updF_self _ _ _)
            · intro f w1 hS hf
              generalize hA : putAll _ _ f = aA
              have g64 : f 5 = .bool true := hf 5 (by decide)
              have t64 : aA.tmps[64]? = some (.bool true) := by rw [← hA]; exact putAll_g f 64 5 slotsCm16 a0 sbCm16 (by kernel_rfl) zsz rfl g64
              have r5 : aA.eval (.tmp 5) = .pointer (some ⟨b5_3, 0, none⟩) := by rw [← hA]; exact putAll_off f 5 slotsCm16 a0 (by kernel_rfl) z5
              exact flw_val rfl ((wanted_of rfl 64 rfl t64).trans rfl) (aggC (putL zC A)) (ex_loadR 28 (.tmp 5) rfl ⟨b5_3, 0, none⟩ r5 (fun _ => by kernel_rfl) (encC (putL zC A)) (by rw [encC_len]; kernel_rfl) ((HX_b5_3.out.keepB hS).part (encC (putL zC A)) 0 (encC_all (putL zC A)))) hS (Flz.refl _) (updF_self _ _ _)
            · intro f w1 hS hf
              generalize hA : putAll _ _ f = aA
              have g64 : f 5 = .bool true := hf 5 (by decide)
              have t64 : aA.tmps[64]? = some (.bool true) := by rw [← hA]; exact putAll_g f 64 5 slotsCm16 a0 sbCm16 (by kernel_rfl) zsz rfl g64
              have r5 : aA.eval (.tmp 5) = .pointer (some ⟨b5_3, 0, none⟩) := by rw [← hA]; exact putAll_off f 5 slotsCm16 a0 (by kernel_rfl) z5
              exact flw_val rfl ((wanted_of rfl 64 rfl t64).trans rfl) (aggC (putL zC A)) (ex_loadR 28 (.tmp 5) rfl ⟨b5_3, 0, none⟩ r5 (fun _ => by kernel_rfl) (encC (putL zC A)) (by rw [encC_len]; kernel_rfl) ((HX_b5_3.out.keepB hS).part (encC (putL zC A)) 0 (encC_all (putL zC A)))) hS (Flz.refl _) (updF_self _ _ _)
            · intro f w1 hS hf
              generalize hA : putAll _ _ f = aA
              have g64 : f 5 = .bool true := hf 5 (by decide)
              have t64 : aA.tmps[64]? = some (.bool true) := by rw [← hA]; exact putAll_g f 64 5 slotsCm16 a0 sbCm16 (by kernel_rfl) zsz rfl g64
              have h65 : f 6 = aggC (putL zC A) := hf 6 (by decide)
              have r65 : aA.eval (.tmp 65) = aggC (putL zC A) := by rw [← hA]; exact putAll_at f 65 6 slotsCm16 a0 sbCm16 (by kernel_rfl) zsz rfl h65
              have h66 : f 7 = aggC (putL zC A) := hf 7 (by decide)
              have r66 : aA.eval (.tmp 66) = aggC (putL zC A) := by rw [← hA]; exact putAll_at f 66 7 slotsCm16 a0 sbCm16 (by kernel_rfl) zsz rfl h66
              exact flw_call rfl ((wanted_of rfl 64 rfl t64).trans rfl) 13 #[(.tmp 65), (.tmp 66)] _ rfl #[aggC (putL zC A), aggC (putL zC A)] (by simp only [List.map_toArray, List.map_cons, List.map_nil, r65, r66]) (fun w => by kernel_rfl) (fun v _ => v = aggC (minusC (putL zC A) (putL zC A))) (minus_any (putL zC A) (putL zC A) w1) (fun v w' hr hb => ⟨hS.trans (hb.mono hS.size), Flz.of hb, (updF_self _ _ _).trans hr⟩)
            · intro f w1 hS hf
              generalize hA : putAll _ _ f = aA
              have g64 : f 5 = .bool true := hf 5 (by decide)
              have t64 : aA.tmps[64]? = some (.bool true) := by rw [← hA]; exact putAll_g f 64 5 slotsCm16 a0 sbCm16 (by kernel_rfl) zsz rfl g64
              have h67 : f 8 = aggC (minusC (putL zC A) (putL zC A)) := hf 8 (by decide)
              have r67 : aA.eval (.tmp 67) = aggC (minusC (putL zC A) (putL zC A)) := by rw [← hA]; exact putAll_at f 67 8 slotsCm16 a0 sbCm16 (by kernel_rfl) zsz rfl h67
              exact flw_call rfl ((wanted_of rfl 64 rfl t64).trans rfl) 16 #[(.tmp 67)] _ rfl #[aggC (minusC (putL zC A) (putL zC A))] (by simp only [List.map_toArray, List.map_cons, List.map_nil, r67]) (fun w => by kernel_rfl) (fun v _ => v = .bool true) (as_any (zeroC_any (minusC (putL zC A) (putL zC A)) w1) (congrArg Value.bool (decide_eq_true minusC_self))) (fun v w' hr hb => ⟨hS.trans (hb.mono hS.size), Flz.of hb, (updF_self _ _ _).trans hr⟩)
            · intro f w1 hS hf
              generalize hA : putAll _ _ f = aA
              have h64 : f 5 = .bool true := hf 5 (by decide)
              have r64 : aA.eval (.tmp 64) = .bool true := by rw [← hA]; exact putAll_at f 64 5 slotsCm16 a0 sbCm16 (by kernel_rfl) zsz rfl h64
              have h68 : f 9 = .bool true := hf 9 (by decide)
              have r68 : aA.eval (.tmp 68) = .bool true := by rw [← hA]; exact putAll_at f 68 9 slotsCm16 a0 sbCm16 (by kernel_rfl) zsz rfl h68
              exact flw_val rfl rfl (.bool true) (ex_pick (.tmp 64) (.tmp 68) _ rfl true r64 ((if_pos rfl).trans r68)) hS (Flz.refl _) (updF_self _ _ _)
            · intro f w1 hS hf
              generalize hA : putAll _ _ f = aA
              have h69 : f 10 = .bool true := hf 10 (by decide)
              have r69 : aA.eval (.tmp 69) = .bool true := by rw [← hA]; exact putAll_at f 69 10 slotsCm16 a0 sbCm16 (by kernel_rfl) zsz rfl h69
              exact flw_val rfl rfl (.bool true) (ex_move (.tmp 69) rfl r69) hS (Flz.refl _) (updF_self _ _ _)
            · intro f w1 hS hf
              generalize hA : putAll _ _ f = aA
              have g70 : f 11 = .bool true := hf 11 (by decide)
              have t70 : aA.tmps[70]? = some (.bool true) := by rw [← hA]; exact putAll_g f 70 11 slotsCm16 a0 sbCm16 (by kernel_rfl) zsz rfl g70
              have r5 : aA.eval (.tmp 5) = .pointer (some ⟨b5_3, 0, none⟩) := by rw [← hA]; exact putAll_off f 5 slotsCm16 a0 (by kernel_rfl) z5
              exact flw_val rfl ((wanted_of rfl 70 rfl t70).trans rfl) (aggC (putL zC A)) (ex_loadR 28 (.tmp 5) rfl ⟨b5_3, 0, none⟩ r5 (fun _ => by kernel_rfl) (encC (putL zC A)) (by rw [encC_len]; kernel_rfl) ((HX_b5_3.out.keepB hS).part (encC (putL zC A)) 0 (encC_all (putL zC A)))) hS (Flz.refl _) (updF_self _ _ _)
            · intro f w1 hS hf
              generalize hA : putAll _ _ f = aA
              have g70 : f 11 = .bool true := hf 11 (by decide)
              have t70 : aA.tmps[70]? = some (.bool true) := by rw [← hA]; exact putAll_g f 70 11 slotsCm16 a0 sbCm16 (by kernel_rfl) zsz rfl g70
              exact flw_val rfl ((wanted_of rfl 70 rfl t70).trans rfl) (aggC zC) (ex_build 28 _ rfl (encC zC).toArray [] (by kernel_rfl) (builtC0)) hS (Flz.refl _) (updF_self _ _ _)
            · intro f w1 hS hf
              generalize hA : putAll _ _ f = aA
              have g70 : f 11 = .bool true := hf 11 (by decide)
              have t70 : aA.tmps[70]? = some (.bool true) := by rw [← hA]; exact putAll_g f 70 11 slotsCm16 a0 sbCm16 (by kernel_rfl) zsz rfl g70
              have h71 : f 12 = aggC (putL zC A) := hf 12 (by decide)
              have r71 : aA.eval (.tmp 71) = aggC (putL zC A) := by rw [← hA]; exact putAll_at f 71 12 slotsCm16 a0 sbCm16 (by kernel_rfl) zsz rfl h71
              have h72 : f 13 = aggC zC := hf 13 (by decide)
              have r72 : aA.eval (.tmp 72) = aggC zC := by rw [← hA]; exact putAll_at f 72 13 slotsCm16 a0 sbCm16 (by kernel_rfl) zsz rfl h72
              exact flw_call rfl ((wanted_of rfl 70 rfl t70).trans rfl) 13 #[(.tmp 71), (.tmp 72)] _ rfl #[aggC (putL zC A), aggC zC] (by simp only [List.map_toArray, List.map_cons, List.map_nil, r71, r72]) (fun w => by kernel_rfl) (fun v _ => v = aggC (minusC (putL zC A) zC)) (minus_any (putL zC A) zC w1) (fun v w' hr hb => ⟨hS.trans (hb.mono hS.size), Flz.of hb, (updF_self _ _ _).trans hr⟩)
            · intro f w1 hS hf
              generalize hA : putAll _ _ f = aA
              have g70 : f 11 = .bool true := hf 11 (by decide)
              have t70 : aA.tmps[70]? = some (.bool true) := by rw [← hA]; exact putAll_g f 70 11 slotsCm16 a0 sbCm16 (by kernel_rfl) zsz rfl g70
              have r5 : aA.eval (.tmp 5) = .pointer (some ⟨b5_3, 0, none⟩) := by rw [← hA]; exact putAll_off f 5 slotsCm16 a0 (by kernel_rfl) z5
              exact flw_val rfl ((wanted_of rfl 70 rfl t70).trans rfl) (aggC (putL zC A)) (ex_loadR 28 (.tmp 5) rfl ⟨b5_3, 0, none⟩ r5 (fun _ => by kernel_rfl) (encC (putL zC A)) (by rw [encC_len]; kernel_rfl) ((HX_b5_3.out.keepB hS).part (encC (putL zC A)) 0 (encC_all (putL zC A)))) hS (Flz.refl _) (updF_self _ _ _)
            · intro f w1 hS hf
              generalize hA : putAll _ _ f = aA
              have g70 : f 11 = .bool true := hf 11 (by decide)
              have t70 : aA.tmps[70]? = some (.bool true) := by rw [← hA]; exact putAll_g f 70 11 slotsCm16 a0 sbCm16 (by kernel_rfl) zsz rfl g70
              have h73 : f 14 = aggC (minusC (putL zC A) zC) := hf 14 (by decide)
              have r73 : aA.eval (.tmp 73) = aggC (minusC (putL zC A) zC) := by rw [← hA]; exact putAll_at f 73 14 slotsCm16 a0 sbCm16 (by kernel_rfl) zsz rfl h73
              have h74 : f 15 = aggC (putL zC A) := hf 15 (by decide)
              have r74 : aA.eval (.tmp 74) = aggC (putL zC A) := by rw [← hA]; exact putAll_at f 74 15 slotsCm16 a0 sbCm16 (by kernel_rfl) zsz rfl h74
              exact flw_val rfl ((wanted_of rfl 70 rfl t70).trans rfl) (.bool true) (Eq.trans (eqlC (.tmp 73) (.tmp 74) _ rfl (minusC (putL zC A) zC) (putL zC A) r73 r74) (by rw [(decide_eq_true (minusC_zero (okC_putL A zC okC_zero)))])) hS (Flz.refl _) (updF_self _ _ _)
            · intro f w1 hS hf
              generalize hA : putAll _ _ f = aA
              have h70 : f 11 = .bool true := hf 11 (by decide)
              have r70 : aA.eval (.tmp 70) = .bool true := by rw [← hA]; exact putAll_at f 70 11 slotsCm16 a0 sbCm16 (by kernel_rfl) zsz rfl h70
              have h75 : f 16 = .bool true := hf 16 (by decide)
              have r75 : aA.eval (.tmp 75) = .bool true := by rw [← hA]; exact putAll_at f 75 16 slotsCm16 a0 sbCm16 (by kernel_rfl) zsz rfl h75
              exact flw_val rfl rfl (.bool true) (ex_pick (.tmp 70) (.tmp 75) _ rfl true r70 ((if_pos rfl).trans r75)) hS (Flz.refl _) (updF_self _ _ _)
            · intro f w1 hS hf
              generalize hA : putAll _ _ f = aA
              have h76 : f 17 = .bool true := hf 17 (by decide)
              have r76 : aA.eval (.tmp 76) = .bool true := by rw [← hA]; exact putAll_at f 76 17 slotsCm16 a0 sbCm16 (by kernel_rfl) zsz rfl h76
              exact flw_val rfl rfl (.bool true) (ex_assign (.tmp 76) rfl r76) hS (Flz.refl _) (updF_self _ _ _)
          intro f w16 hS hf hap
          have h0 : f 0 = aggC (putL zC A) := hf 0 (by decide)
          have h1 : f 1 = aggC (putL zC B) := hf 1 (by decide)
          have h2 : f 2 = aggC (minusC (putL zC A) (putL zC B)) := hf 2 (by decide)
          have h3 : f 3 = aggC (takeL (putL zC A) B) := hf 3 (by decide)
          have h4 : f 4 = .bool true := hf 4 (by decide)
          have h5 : f 5 = .bool true := hf 5 (by decide)
          have h6 : f 6 = aggC (putL zC A) := hf 6 (by decide)
          have h7 : f 7 = aggC (putL zC A) := hf 7 (by decide)
          have h8 : f 8 = aggC (minusC (putL zC A) (putL zC A)) := hf 8 (by decide)
          have h9 : f 9 = .bool true := hf 9 (by decide)
          have h10 : f 10 = .bool true := hf 10 (by decide)
          have h11 : f 11 = .bool true := hf 11 (by decide)
          have h12 : f 12 = aggC (putL zC A) := hf 12 (by decide)
          have h13 : f 13 = aggC zC := hf 13 (by decide)
          have h14 : f 14 = aggC (minusC (putL zC A) zC) := hf 14 (by decide)
          have h15 : f 15 = aggC (putL zC A) := hf 15 (by decide)
          have h16 : f 16 = .bool true := hf 16 (by decide)
          have h17 : f 17 = .bool true := hf 17 (by decide)
          have h18 : f 18 = .bool true := hf 18 (by decide)
          clear hf hap
          clear zsz z5 z6 z7
          subst ha0
          simp only [slotsCm16, putAll, h0, h1, h2, h3, h4, h5, h6, h7, h8, h9, h10, h11, h12, h13, h14, h15, h16, h17, h18, Act.put, List.setIfInBounds_toArray, List.set_cons_zero, List.set_cons_succ]
          clear h0 h1 h2 h3 h4 h5 h6 h7 h8 h9 h10 h11 h12 h13 h14 h15 h16 h17 h18
          refine tl_nilN ?_
          replace HX_b5_3 := Lib.hid (HX_b5_3.out.keepB hS)
          replace HX_b5_4 := Lib.hid (HX_b5_4.out.keepB hS)
          replace HX_b5_5 := Lib.hid (HX_b5_5.out.keepB hS)
          replace HB := Lib.hid (HB.out.trans (hS.mono HB.out.size))
          clear hS
          go_wp2_with fail
          go_ret
          exact ⟨rfl, HB.out⟩
end Go.Proofs.YtihkbblapfjobaaDoor
