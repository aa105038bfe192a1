/- The law CellOne: it answers true. Conditions: the sums' tables are laid; what comes in lies in memory. -/
import Derived.Test.YtihkbblapfjobaaDoorAw
import Derived.Test.YtihkbblapfjobaaDoorCb
import Derived.Test.YtihkbblapfjobaaDoorFox
namespace Go.Proofs.YtihkbblapfjobaaDoor
open Go.RowKit
def waitCn1 (i : Nat) : List Nat := ([[], [0]] : List (List Nat)).getD i []
def slotsCn1 : List (Nat × Nat) := [(15, 0), (16, 1)]
theorem sbCn1 : slotsB slotsCn1 = true := by kernel_rfl
theorem chkCn1 : flwO slotsCn1 waitCn1 2 (regOf Tryd.f7.body 1) = true := by kernel_rfl
def waitCn5 (i : Nat) : List Nat := ([[], [], [0, 1], [], [0, 1, 2, 3]] : List (List Nat)).getD i []
def slotsCn5 : List (Nat × Nat) := [(20, 0), (21, 1), (22, 2), (5, 3)]
theorem sbCn5 : slotsB slotsCn5 = true := by kernel_rfl
theorem chkCn5 : flwO slotsCn5 waitCn5 4 (regOf Tryd.f7.body 5) = true := by kernel_rfl
def waitCn6 (i : Nat) : List Nat := ([[], [], [0, 1], [], [0, 1, 2, 3]] : List (List Nat)).getD i []
def slotsCn6 : List (Nat × Nat) := [(23, 0), (24, 1), (25, 2), (6, 3)]
theorem sbCn6 : slotsB slotsCn6 = true := by kernel_rfl
theorem chkCn6 : flwO slotsCn6 waitCn6 4 (regOf Tryd.f7.body 6) = true := by kernel_rfl
def waitCn10 (i : Nat) : List Nat := ([[], [], [], [1, 2], [3], [0, 4], [], [], [], [7, 8], [7, 8, 9], [6, 7, 8, 9, 10], [0, 1, 2, 3, 4, 5, 6, 7, 8, 9, 10, 11], [0, 1, 2, 3, 4, 5, 6, 7, 8, 9, 10, 11, 12]] : List (List Nat)).getD i []
def slotsCn10 : List (Nat × Nat) := [(32, 0), (33, 1), (34, 2), (35, 3), (36, 4), (37, 5), (38, 6), (39, 7), (40, 8), (41, 9), (42, 10), (43, 11)]
theorem sbCn10 : slotsB slotsCn10 = true := by kernel_rfl
theorem chkCn10 : flwB slotsCn10 waitCn10 12 (regOf Tryd.f7.body 10) = true := by kernel_rfl
def waitCn14 (i : Nat) : List Nat := ([[], [], [], [1, 2], [3], [0, 4], [], [], [], [7, 8], [7, 8, 9], [6, 7, 8, 9, 10], [0, 1, 2, 3, 4, 5, 6, 7, 8, 9, 10, 11], [0, 1, 2, 3, 4, 5, 6, 7, 8, 9, 10, 11, 12]] : List (List Nat)).getD i []
def slotsCn14 : List (Nat × Nat) := [(50, 0), (51, 1), (52, 2), (53, 3), (54, 4), (55, 5), (56, 6), (57, 7), (58, 8), (59, 9), (60, 10), (61, 11)]
theorem sbCn14 : slotsB slotsCn14 = true := by kernel_rfl
theorem chkCn14 : flwB slotsCn14 waitCn14 12 (regOf Tryd.f7.body 14) = true := by kernel_rfl
def waitCn15 (i : Nat) : List Nat := ([[], [0], [1], [2], [2], [2], [], [0, 1, 2, 3, 4, 5, 6], [0, 1, 2, 3, 4, 5, 6, 7], [0, 1, 2, 3, 4, 5, 6, 7, 8]] : List (List Nat)).getD i []
def slotsCn15 : List (Nat × Nat) := [(63, 0), (64, 1), (62, 2), (65, 3), (66, 4), (67, 5), (9, 6), (10, 8), (11, 9)]
theorem sbCn15 : slotsB slotsCn15 = true := by kernel_rfl
theorem chkCn15 : flwO slotsCn15 waitCn15 7 (regOf Tryd.f7.body 15) = true := by kernel_rfl
def waitCn16 (i : Nat) : List Nat := ([[], [0], [1], [2], [2], [2], [], [0, 1, 2, 3, 4, 5, 6], [0, 1, 2, 3, 4, 5, 6, 7], [0, 1, 2, 3, 4, 5, 6, 7, 8]] : List (List Nat)).getD i []
def slotsCn16 : List (Nat × Nat) := [(69, 0), (70, 1), (68, 2), (71, 3), (72, 4), (73, 5), (12, 6), (13, 8), (14, 9)]
theorem sbCn16 : slotsB slotsCn16 = true := by kernel_rfl
theorem chkCn16 : flwO slotsCn16 waitCn16 7 (regOf Tryd.f7.body 16) = true := by kernel_rfl
def waitCn17 (i : Nat) : List Nat := ([[], [0], [1], [1, 2], [3], [4], [4, 5], [6], [7], [7, 8], [7, 9], [10], [11], [11], [11, 12, 13], [11, 14], [15], [16], [16], [16, 17, 18], [16, 19], [20]] : List (List Nat)).getD i []
def slotsCn17 : List (Nat × Nat) := [(74, 0), (75, 1), (76, 2), (77, 3), (78, 4), (79, 5), (80, 6), (81, 7), (82, 8), (83, 9), (84, 10), (85, 11), (86, 12), (87, 13), (88, 14), (89, 15), (90, 16), (91, 17), (92, 18), (93, 19), (94, 20), (4, 21)]
theorem sbCn17 : slotsB slotsCn17 = true := by kernel_rfl
theorem chkCn17 : flwO slotsCn17 waitCn17 22 (regOf Tryd.f7.body 17) = true := by kernel_rfl
set_option maxHeartbeats 16000000 in
set_option maxRecDepth 100000 in
theorem cellOne_b (sx : Su) (L : List Su) (qa : Option Addr) (ca : Nat) (w w0 : World) (hB : Below w.heap.size w w0) (hL : Laid w) (ha : Sees w w.heap.size qa (rowU L)) : Calls Tryd.prog 7 #[.agg (encU sx).toArray, .slice qa L.length ca] w0 fun e w' => (∃ v, e = .returned v ∧ v = .bool true) ∧ Below w.heap.size w w' := by
  have HL := Lib.hid hL
  have HSZ := Lib.hid hL.size
  have HSA := Lib.hid ha
  obtain ⟨n, hn⟩ : ∃ n, L.length = n := ⟨_, rfl⟩
  have HN := Lib.hid hn
  rw [hn]
  clear ha hn hL
  go_enter Tryd.func7, Tryd.ntmps7
  have HB := Lib.hid hB
  clear hB
  go_upto_region 0 with fail
  refine wp_region_lit ?_
  try simp only [Act.put, List.setIfInBounds_toArray, List.set_cons_zero, List.set_cons_succ]
  refine lp_step rfl (fun K hK => wp_box_row 23 (.tmp 0) rfl (.agg (encU sx).toArray) rfl (hK _ _ ?_))
  try simp only [Act.put, List.setIfInBounds_toArray, List.set_cons_zero, List.set_cons_succ]
  show wpList _ _ _ _ _ (w0.alloc (.cells (encU sx).toArray 23))
  have HST : Hid (Below w0.heap.size w0 (w0.alloc (.cells (encU sx).toArray 23))) := Lib.hid ((Below.refl _ _).alloc (Nat.le_refl _) _)
  have HX1 : Hid (Has (w0.alloc (.cells (encU sx).toArray 23)) w0.heap.size 23 (encU sx)) := Lib.hid (Has.made' _ _ _ _ rfl)
  have HGg1 : Hid (w.heap.size ≤ w0.heap.size) := Lib.hid HB.out.size
  replace HB := Lib.hid (HB.out.trans (HST.out.mono HB.out.size))
  clear HST
  generalize w0.alloc (.cells (encU sx).toArray 23) = w1 at *
  generalize w0.heap.size = g1 at *
  refine lp_pure rfl (ex_assign _ rfl rfl) ?_
  try simp only [Act.put, List.setIfInBounds_toArray, List.set_cons_zero, List.set_cons_succ]
  refine wpList_nil ?_
  go_upto_region 1 with fail
  refine wp_act (fun a0 ha0 => ?_)
  have zsz : a0.tmps.size = 95 := by rw [ha0]; rfl
  refine wp_region_flwo (E := Flz) [] slotsCn1 waitCn1 [Fct.val Flz 0 (.bool true), Fct.val Flz 1 (.bool false)] (fun w' => Below w1.heap.size w1 w') _ 2 0 chkCn1 (by kernel_rfl) rfl (by kernel_rfl) (by decide) (Below.refl _ _) ?_ ?_
  · refine lt_s (lt_s (lt_0) ?_) ?_
    · intro f w1 hS hf
      generalize hA : putAll _ _ f = aA
      exact flw_call rfl rfl 9 #[] _ rfl #[] (by kernel_rfl) (fun w => by kernel_rfl) (fun v _ => v = .bool true) (awake13_any w1 (HL.out.keep (HB.out.trans (hS.mono HB.out.size)) HSZ.out)) (fun v w' hr hb => ⟨hS.trans (hb.mono hS.size), Flz.of hb, (updF_self _ _ _).trans hr⟩)
    · intro f w1 hS hf
      generalize hA : putAll _ _ f = aA
      have h15 : f 0 = .bool true := hf 0 (by decide)
      have r15 : aA.eval (.tmp 15) = .bool true := by rw [← hA]; exact putAll_at f 15 0 slotsCn1 a0 sbCn1 (by kernel_rfl) zsz rfl h15
      exact flw_val rfl rfl (.bool false) (ex_not _ (.tmp 15) rfl r15) hS (Flz.refl _) (updF_self _ _ _)
  intro f w2 hS hf hap
  have h0 : f 0 = .bool true := hf 0 (by decide)
  have h1 : f 1 = .bool false := hf 1 (by decide)
  clear hf hap
  clear zsz
  subst ha0
  simp only [slotsCn1, putAll, h0, h1, Act.put, List.setIfInBounds_toArray, List.set_cons_zero, List.set_cons_succ]
  clear h0 h1
  refine tl_nil ?_
  replace HX1 := Lib.hid (HX1.out.keepB hS)
  replace HB := Lib.hid (HB.out.trans (hS.mono HB.out.size))
  clear hS
  by_cases h1 : 40 < n
  · have k1 : (40 : Int) < (n : Int) := by omega
    go_wp2_with fail
    go_ret
    exact ⟨⟨_, rfl, rfl⟩, HB.out⟩
  have k1 : ¬ (40 : Int) < (n : Int) := by omega
  go_upto_region 5 with fail
  refine wp_act (fun a0 ha0 => ?_)
  have zsz : a0.tmps.size = 95 := by rw [ha0]; rfl
  have z2 : a0.eval (.tmp 2) = .pointer (some ⟨g1, 0, none⟩) := by rw [ha0]; rfl
  refine wp_region_flwo (E := Flz) [] slotsCn5 waitCn5 [Fct.val Flz 0 (aggC zC), Fct.val Flz 1 (.agg (encU sx).toArray), Fct.val Flz 2 (aggC (putC zC sx)), Fct.obj 3 (fun v w => ∃ g, v = .pointer (some ⟨g, 0, none⟩) ∧ w2.heap.size ≤ g ∧ Has w g 28 (encC zC)) (fun _ _ _ ⟨g, a, b, c⟩ he => ⟨g, a, b, c.flz he (by decide)⟩)] (fun w' => Below w2.heap.size w2 w') _ 4 1 chkCn5 (by kernel_rfl) rfl (by kernel_rfl) (by decide) (Below.refl _ _) ?_ ?_
  · refine lt_s (lt_s (lt_s (lt_s (lt_0) ?_) ?_) ?_) ?_
    · intro f w1 hS hf
      generalize hA : putAll _ _ f = aA
      exact flw_val rfl rfl (aggC zC) (ex_build 28 _ rfl (encC zC).toArray [] (by kernel_rfl) (builtC0)) hS (Flz.refl _) (updF_self _ _ _)
    · intro f w1 hS hf
      generalize hA : putAll _ _ f = aA
      have r2 : aA.eval (.tmp 2) = .pointer (some ⟨g1, 0, none⟩) := by rw [← hA]; exact putAll_off f 2 slotsCn5 a0 (by kernel_rfl) z2
      exact flw_val rfl rfl (.agg (encU sx).toArray) (ex_loadR 23 (.tmp 2) rfl ⟨g1, 0, none⟩ r2 (fun _ => by kernel_rfl) (encU sx) (by rw [encU_len]; kernel_rfl) ((HX1.out.keepB hS).part (encU sx) 0 (encU_all' sx))) hS (Flz.refl _) (updF_self _ _ _)
    · intro f w1 hS hf
      generalize hA : putAll _ _ f = aA
      have h20 : f 0 = aggC zC := hf 0 (by decide)
      have r20 : aA.eval (.tmp 20) = aggC zC := by rw [← hA]; exact putAll_at f 20 0 slotsCn5 a0 sbCn5 (by kernel_rfl) zsz rfl h20
      have h21 : f 1 = .agg (encU sx).toArray := hf 1 (by decide)
      have r21 : aA.eval (.tmp 21) = .agg (encU sx).toArray := by rw [← hA]; exact putAll_at f 21 1 slotsCn5 a0 sbCn5 (by kernel_rfl) zsz rfl h21
      exact flw_call rfl rfl 11 #[(.tmp 20), (.tmp 21)] _ rfl #[aggC zC, .agg (encU sx).toArray] (by simp only [List.map_toArray, List.map_cons, List.map_nil, r20, r21]) (fun w => by kernel_rfl) (fun v _ => v = aggC (putC zC sx)) (put_any zC sx w1 (HL.out.keep (HB.out.trans (hS.mono HB.out.size)) HSZ.out)) (fun v w' hr hb => ⟨hS.trans (hb.mono hS.size), Flz.of hb, (updF_self _ _ _).trans hr⟩)
    · intro f w1 hS hf
      generalize hA : putAll _ _ f = aA
      exact flw_wp rfl rfl (fun K hK => wp_alloc_row 28 rfl (aggC zC) (fun w => by kernel_rfl) (hK _ _ (hS.alloc hS.size _) (Flz.al _ _) ⟨_, updF_self _ _ _, hS.size, Has.made' _ _ _ _ rfl⟩))
  intro f u5 hS hf hap
  have h0 : f 0 = aggC zC := hf 0 (by decide)
  have h1 : f 1 = .agg (encU sx).toArray := hf 1 (by decide)
  have h2 : f 2 = aggC (putC zC sx) := hf 2 (by decide)
  obtain ⟨b5_3, h3, hgb3, hhb3⟩ := hf 3 (by decide)
  clear hf hap
  clear zsz z2
  subst ha0
  simp only [slotsCn5, putAll, h0, h1, h2, h3, Act.put, List.setIfInBounds_toArray, List.set_cons_zero, List.set_cons_succ]
  clear h0 h1 h2 h3
  refine tl_store rfl (by kernel_rfl) 28 (.tmp 5) (.tmp 22) rfl b5_3 (encC (putC zC sx)) _ rfl rfl _ hhb3 (by rw [encC_len]; kernel_rfl) (by simp only [encC_len]) (encC_ones _) ?_
  intro w5 hp3 hbl hot
  replace hS := hS.trans (hbl _ hgb3)
  clear hbl hot hhb3
  try simp only [Act.put]
  refine tl_nil ?_
  replace HX1 := Lib.hid (HX1.out.keepB hS)
  have HBW := Lib.hid HB.out.size
  replace HB := Lib.hid (HB.out.trans (hS.mono HB.out.size))
  clear hS
  have HGb5_3 : Hid (w.heap.size ≤ b5_3) := Lib.hid (Nat.le_trans HBW.out hgb3)
  have HX_b5_3 : Hid (Has w5 b5_3 28 (encC (putC zC sx))) := Lib.hid hp3
  clear hp3 hgb3
  clear HBW
  go_upto_region 6 with fail
  refine wp_act (fun a0 ha0 => ?_)
  have zsz : a0.tmps.size = 95 := by rw [ha0]; rfl
  have z2 : a0.eval (.tmp 2) = .pointer (some ⟨g1, 0, none⟩) := by rw [ha0]; rfl
  refine wp_region_flwo (E := Flz) [] slotsCn6 waitCn6 [Fct.val Flz 0 (aggC zC), Fct.val Flz 1 (.agg (encU sx).toArray), Fct.val Flz 2 (aggC (takeC zC sx)), Fct.obj 3 (fun v w => ∃ g, v = .pointer (some ⟨g, 0, none⟩) ∧ w5.heap.size ≤ g ∧ Has w g 28 (encC zC)) (fun _ _ _ ⟨g, a, b, c⟩ he => ⟨g, a, b, c.flz he (by decide)⟩)] (fun w' => Below w5.heap.size w5 w') _ 4 1 chkCn6 (by kernel_rfl) rfl (by kernel_rfl) (by decide) (Below.refl _ _) ?_ ?_
  · refine lt_s (lt_s (lt_s (lt_s (lt_0) ?_) ?_) ?_) ?_
    · intro f w1 hS hf
      generalize hA : putAll _ _ f = aA
      exact flw_val rfl rfl (aggC zC) (ex_build 28 _ rfl (encC zC).toArray [] (by kernel_rfl) (builtC0)) hS (Flz.refl _) (updF_self _ _ _)
    · intro f w1 hS hf
      generalize hA : putAll _ _ f = aA
      have r2 : aA.eval (.tmp 2) = .pointer (some ⟨g1, 0, none⟩) := by rw [← hA]; exact putAll_off f 2 slotsCn6 a0 (by kernel_rfl) z2
      exact flw_val rfl rfl (.agg (encU sx).toArray) (ex_loadR 23 (.tmp 2) rfl ⟨g1, 0, none⟩ r2 (fun _ => by kernel_rfl) (encU sx) (by rw [encU_len]; kernel_rfl) ((HX1.out.keepB hS).part (encU sx) 0 (encU_all' sx))) hS (Flz.refl _) (updF_self _ _ _)
    · intro f w1 hS hf
      generalize hA : putAll _ _ f = aA
      have h23 : f 0 = aggC zC := hf 0 (by decide)
      have r23 : aA.eval (.tmp 23) = aggC zC := by rw [← hA]; exact putAll_at f 23 0 slotsCn6 a0 sbCn6 (by kernel_rfl) zsz rfl h23
      have h24 : f 1 = .agg (encU sx).toArray := hf 1 (by decide)
      have r24 : aA.eval (.tmp 24) = .agg (encU sx).toArray := by rw [← hA]; exact putAll_at f 24 1 slotsCn6 a0 sbCn6 (by kernel_rfl) zsz rfl h24
      exact flw_call rfl rfl 14 #[(.tmp 23), (.tmp 24)] _ rfl #[aggC zC, .agg (encU sx).toArray] (by simp only [List.map_toArray, List.map_cons, List.map_nil, r23, r24]) (fun w => by kernel_rfl) (fun v _ => v = aggC (takeC zC sx)) (take_any zC sx w1 (HL.out.keep (HB.out.trans (hS.mono HB.out.size)) HSZ.out)) (fun v w' hr hb => ⟨hS.trans (hb.mono hS.size), Flz.of hb, (updF_self _ _ _).trans hr⟩)
    · intro f w1 hS hf
      generalize hA : putAll _ _ f = aA
      exact flw_wp rfl rfl (fun K hK => wp_alloc_row 28 rfl (aggC zC) (fun w => by kernel_rfl) (hK _ _ (hS.alloc hS.size _) (Flz.al _ _) ⟨_, updF_self _ _ _, hS.size, Has.made' _ _ _ _ rfl⟩))
  intro f u6 hS hf hap
  have h0 : f 0 = aggC zC := hf 0 (by decide)
  have h1 : f 1 = .agg (encU sx).toArray := hf 1 (by decide)
  have h2 : f 2 = aggC (takeC zC sx) := hf 2 (by decide)
  obtain ⟨b6_3, h3, hgb3, hhb3⟩ := hf 3 (by decide)
  clear hf hap
  clear zsz z2
  subst ha0
  simp only [slotsCn6, putAll, h0, h1, h2, h3, Act.put, List.setIfInBounds_toArray, List.set_cons_zero, List.set_cons_succ]
  clear h0 h1 h2 h3
  have hlt5 := HX_b5_3.out.lt
  refine tl_store rfl (by kernel_rfl) 28 (.tmp 6) (.tmp 25) rfl b6_3 (encC (takeC zC sx)) _ rfl rfl _ hhb3 (by rw [encC_len]; kernel_rfl) (by simp only [encC_len]) (encC_ones _) ?_
  intro w6 hp3 hbl hot
  have HNE_b5_3_b6_3 : Hid (b5_3 ≠ b6_3) := Lib.hid (by omega)
  replace hS := hS.trans (hbl _ hgb3)
  clear hbl hot hhb3
  try simp only [Act.put]
  refine tl_nil ?_
  replace HX1 := Lib.hid (HX1.out.keepB hS)
  replace HX_b5_3 := Lib.hid (HX_b5_3.out.keepB hS)
  have HBW := Lib.hid HB.out.size
  replace HB := Lib.hid (HB.out.trans (hS.mono HB.out.size))
  clear hS
  have HGb6_3 : Hid (w.heap.size ≤ b6_3) := Lib.hid (Nat.le_trans HBW.out hgb3)
  have HX_b6_3 : Hid (Has w6 b6_3 28 (encC (takeC zC sx))) := Lib.hid hp3
  clear hp3 hgb3
  clear HBW
  have HNE_b5_3_g1 : Hid (b5_3 ≠ g1) := Lib.hid (HX_b5_3.out.apartT HX1.out (by decide))
  have HNE_b6_3_g1 : Hid (b6_3 ≠ g1) := Lib.hid (HX_b6_3.out.apartT HX1.out (by decide))
  go_wp2_with fail
  go_loopw [7] (fun v wr => ∃ k : Nat, k ≤ n ∧ v = .int .i64 k ∧ Has wr b5_3 28 (encC (putL (putC zC sx) (L.take k))) ∧ Has wr b6_3 28 (encC (putL (takeC zC sx) (L.take k))) ∧ Has wr g1 23 (encU sx) ∧ Below w.heap.size w wr) (fun v _ => n - (intOf v).toNat)
  case atStart => exact ⟨0, by omega, rfl, HX_b5_3.out, HX_b6_3.out, HX1.out, HB.out⟩
  case round =>
    clear HX_b5_3 HX_b6_3 HX1 HB
    rename_i wr
    obtain ⟨k, hk, rfl, hx1, hx2, hx0, hB⟩ := hrel
    have HX_b5_3 := Lib.hid hx1
    have HX_b6_3 := Lib.hid hx2
    have HX1 := Lib.hid hx0
    have HB := Lib.hid hB
    clear hx0 hx1 hx2 hB
    by_cases hlt : k < n
    · have hkL : k < L.length := by rw [HN.out]; exact hlt
      obtain ⟨aa, rfl, _, hc⟩ := Ss.el HSA.out hkL
      have HTK : Hid (L.take (k + 1) = L.take k ++ [L[k]]) := Lib.hid (List.take_succ_eq_append_getElem hkL)
      have HEL : Hid (∀ w', Below w.heap.size w w' → ∀ j u, (encU L[k])[j]? = some u → w'.cell? ((aa.add (k * 32)).add j) = some u) := Lib.hid hc
      clear hc
      generalize L[k] = x at *
      have k3 : (k : Int) < (n : Int) := by omega
      go_upto_region 10 with fail
      have HST : Hid (Below wr.heap.size wr wr.drew) := Lib.hid (Below.refl _ _).drew
      replace HX_b5_3 := Lib.hid (HX_b5_3.out.keepB HST.out)
      replace HX_b6_3 := Lib.hid (HX_b6_3.out.keepB HST.out)
      replace HX1 := Lib.hid (HX1.out.keepB HST.out)
      replace HB := Lib.hid (HB.out.trans (HST.out.mono HB.out.size))
      clear HST
      refine wp_act (fun a0 ha0 => ?_)
      have zsz : a0.tmps.size = 95 := by rw [ha0]; rfl
      have z5 : a0.eval (.tmp 5) = .pointer (some ⟨b5_3, 0, none⟩) := by rw [ha0]; rfl
      have z1 : a0.eval (.tmp 1) = .slice (some aa) n ca := by rw [ha0]; rfl
      have z7 : a0.eval (.tmp 7) = .int .i64 ((k : Int)) := by rw [ha0]; rfl
      have z6 : a0.eval (.tmp 6) = .pointer (some ⟨b6_3, 0, none⟩) := by rw [ha0]; rfl
      refine wp_region_flw (E := Flz) [] slotsCn10 waitCn10 [Fct.val Flz 0 (aggC (putL (putC zC sx) (L.take k))), Fct.val Flz 1 (.slice (some aa) n ca), Fct.val Flz 2 (.int .i64 ((k : Int))), Fct.val Flz 3 (.pointer (some (aa.add (k * 32)))), Fct.val Flz 4 (.agg (encU x).toArray), Fct.val Flz 5 (aggC (putC (putL (putC zC sx) (L.take k)) x)), Fct.val Flz 6 (aggC (putL (takeC zC sx) (L.take k))), Fct.val Flz 7 (.slice (some aa) n ca), Fct.val Flz 8 (.int .i64 ((k : Int))), Fct.val Flz 9 (.pointer (some (aa.add (k * 32)))), Fct.val Flz 10 (.agg (encU x).toArray), Fct.val Flz 11 (aggC (putC (putL (takeC zC sx) (L.take k)) x))] (fun w' => Below wr.drew.heap.size wr.drew w') _ 12 2 chkCn10 (by kernel_rfl) rfl (by kernel_rfl) (by kernel_rfl) (by decide) (Below.refl _ _) ?_ ?_
      · refine lt_s (lt_s (lt_s (lt_s (lt_s (lt_s (lt_s (lt_s (lt_s (lt_s (lt_s (lt_s (lt_0) ?_) ?_) ?_) ?_) ?_) ?_) ?_) ?_) ?_) ?_) ?_) ?_
        · intro f w1 hS hf
          generalize hA : putAll _ _ f = aA
          have r5 : aA.eval (.tmp 5) = .pointer (some ⟨b5_3, 0, none⟩) := by rw [← hA]; exact putAll_off f 5 slotsCn10 a0 (by kernel_rfl) z5
          exact flw_val rfl rfl (aggC (putL (putC zC sx) (L.take k))) (ex_loadR 28 (.tmp 5) rfl ⟨b5_3, 0, none⟩ r5 (fun _ => by kernel_rfl) (encC (putL (putC zC sx) (L.take k))) (by rw [encC_len]; kernel_rfl) ((HX_b5_3.out.keepB hS).part (encC (putL (putC zC sx) (L.take k))) 0 (encC_all (putL (putC zC sx) (L.take k))))) hS (Flz.refl _) (updF_self _ _ _)
        · intro f w1 hS hf
          generalize hA : putAll _ _ f = aA
          have r1 : aA.eval (.tmp 1) = .slice (some aa) n ca := by rw [← hA]; exact putAll_off f 1 slotsCn10 a0 (by kernel_rfl) z1
          exact flw_val rfl rfl (.slice (some aa) n ca) (ex_move (.tmp 1) rfl r1) hS (Flz.refl _) (updF_self _ _ _)
        · intro f w1 hS hf
          generalize hA : putAll _ _ f = aA
          have r7 : aA.eval (.tmp 7) = .int .i64 ((k : Int)) := by rw [← hA]; exact putAll_off f 7 slotsCn10 a0 (by kernel_rfl) z7
          exact flw_val rfl rfl (.int .i64 ((k : Int))) (ex_move (.tmp 7) rfl r7) hS (Flz.refl _) (updF_self _ _ _)
        · intro f w1 hS hf
          generalize hA : putAll _ _ f = aA
          have h33 : f 1 = .slice (some aa) n ca := hf 1 (by decide)
          have r33 : aA.eval (.tmp 33) = .slice (some aa) n ca := by rw [← hA]; exact putAll_at f 33 1 slotsCn10 a0 sbCn10 (by kernel_rfl) zsz rfl h33
          have h34 : f 2 = .int .i64 ((k : Int)) := hf 2 (by decide)
          have r34 : aA.eval (.tmp 34) = .int .i64 ((k : Int)) := by rw [← hA]; exact putAll_at f 34 2 slotsCn10 a0 sbCn10 (by kernel_rfl) zsz rfl h34
          exact flw_val rfl rfl (.pointer (some (aa.add (k * 32)))) (ex_indexS 44 23 (.tmp 33) (.tmp 34) rfl aa n ca k 32 (by kernel_rfl) (fun _ => by kernel_rfl) r33 r34 hlt) hS (Flz.refl _) (updF_self _ _ _)
        · intro f w1 hS hf
          generalize hA : putAll _ _ f = aA
          have h35 : f 3 = .pointer (some (aa.add (k * 32))) := hf 3 (by decide)
          have r35 : aA.eval (.tmp 35) = .pointer (some (aa.add (k * 32))) := by rw [← hA]; exact putAll_at f 35 3 slotsCn10 a0 sbCn10 (by kernel_rfl) zsz rfl h35
          exact flw_val rfl rfl (.agg (encU x).toArray) (ex_loadR 23 (.tmp 35) rfl (aa.add (k * 32)) r35 (fun _ => by kernel_rfl) (encU x) (by rw [encU_len]; kernel_rfl) (HEL.out w1 (HB.out.trans (hS.mono HB.out.size)))) hS (Flz.refl _) (updF_self _ _ _)
        · intro f w1 hS hf
          generalize hA : putAll _ _ f = aA
          have h32 : f 0 = aggC (putL (putC zC sx) (L.take k)) := hf 0 (by decide)
          have r32 : aA.eval (.tmp 32) = aggC (putL (putC zC sx) (L.take k)) := by rw [← hA]; exact putAll_at f 32 0 slotsCn10 a0 sbCn10 (by kernel_rfl) zsz rfl h32
          have h36 : f 4 = .agg (encU x).toArray := hf 4 (by decide)
          have r36 : aA.eval (.tmp 36) = .agg (encU x).toArray := by rw [← hA]; exact putAll_at f 36 4 slotsCn10 a0 sbCn10 (by kernel_rfl) zsz rfl h36
          exact flw_call rfl rfl 11 #[(.tmp 32), (.tmp 36)] _ rfl #[aggC (putL (putC zC sx) (L.take k)), .agg (encU x).toArray] (by simp only [List.map_toArray, List.map_cons, List.map_nil, r32, r36]) (fun w => by kernel_rfl) (fun v _ => v = aggC (putC (putL (putC zC sx) (L.take k)) x)) (put_any (putL (putC zC sx) (L.take k)) x w1 (HL.out.keep (HB.out.trans (hS.mono HB.out.size)) HSZ.out)) (fun v w' hr hb => ⟨hS.trans (hb.mono hS.size), Flz.of hb, (updF_self _ _ _).trans hr⟩)
        · intro f w1 hS hf
          generalize hA : putAll _ _ f = aA
          have r6 : aA.eval (.tmp 6) = .pointer (some ⟨b6_3, 0, none⟩) := by rw [← hA]; exact putAll_off f 6 slotsCn10 a0 (by kernel_rfl) z6
          exact flw_val rfl rfl (aggC (putL (takeC zC sx) (L.take k))) (ex_loadR 28 (.tmp 6) rfl ⟨b6_3, 0, none⟩ r6 (fun _ => by kernel_rfl) (encC (putL (takeC zC sx) (L.take k))) (by rw [encC_len]; kernel_rfl) ((HX_b6_3.out.keepB hS).part (encC (putL (takeC zC sx) (L.take k))) 0 (encC_all (putL (takeC zC sx) (L.take k))))) hS (Flz.refl _) (updF_self _ _ _)
        · intro f w1 hS hf
          generalize hA : putAll _ _ f = aA
          have r1 : aA.eval (.tmp 1) = .slice (some aa) n ca := by rw [← hA]; exact putAll_off f 1 slotsCn10 a0 (by kernel_rfl) z1
          exact flw_val rfl rfl (.slice (some aa) n ca) (ex_move (.tmp 1) rfl r1) hS (Flz.refl _) (updF_self _ _ _)
        · intro f w1 hS hf
          generalize hA : putAll _ _ f = aA
          have r7 : aA.eval (.tmp 7) = .int .i64 ((k : Int)) := by rw [← hA]; exact putAll_off f 7 slotsCn10 a0 (by kernel_rfl) z7
          exact flw_val rfl rfl (.int .i64 ((k : Int))) (ex_move (.tmp 7) rfl r7) hS (Flz.refl _) (updF_self _ _ _)
        · intro f w1 hS hf
          generalize hA : putAll _ _ f = aA
          have h39 : f 7 = .slice (some aa) n ca := hf 7 (by decide)
          have r39 : aA.eval (.tmp 39) = .slice (some aa) n ca := by rw [← hA]; exact putAll_at f 39 7 slotsCn10 a0 sbCn10 (by kernel_rfl) zsz rfl h39
          have h40 : f 8 = .int .i64 ((k : Int)) := hf 8 (by decide)
          have r40 : aA.eval (.tmp 40) = .int .i64 ((k : Int)) := by rw [← hA]; exact putAll_at f 40 8 slotsCn10 a0 sbCn10 (by kernel_rfl) zsz rfl h40
          exact flw_val rfl rfl (.pointer (some (aa.add (k * 32)))) (ex_indexS 44 23 (.tmp 39) (.tmp 40) rfl aa n ca k 32 (by kernel_rfl) (fun _ => by kernel_rfl) r39 r40 hlt) hS (Flz.refl _) (updF_self _ _ _)
        · intro f w1 hS hf
          generalize hA : putAll _ _ f = aA
          have h41 : f 9 = .pointer (some (aa.add (k * 32))) := hf 9 (by decide)
          have r41 : aA.eval (.tmp 41) = .pointer (some (aa.add (k * 32))) := by rw [← hA]; exact putAll_at f 41 9 slotsCn10 a0 sbCn10 (by kernel_rfl) zsz rfl h41
          exact flw_val rfl rfl (.agg (encU x).toArray) (ex_loadR 23 (.tmp 41) rfl (aa.add (k * 32)) r41 (fun _ => by kernel_rfl) (encU x) (by rw [encU_len]; kernel_rfl) (HEL.out w1 (HB.out.trans (hS.mono HB.out.size)))) hS (Flz.refl _) (updF_self _ _ _)
        · intro f w1 hS hf
          generalize hA : putAll _ _ f = aA
          have h38 : f 6 = aggC (putL (takeC zC sx) (L.take k)) := hf 6 (by decide)
          have r38 : aA.eval (.tmp 38) = aggC (putL (takeC zC sx) (L.take k)) := by rw [← hA]; exact putAll_at f 38 6 slotsCn10 a0 sbCn10 (by kernel_rfl) zsz rfl h38
          have h42 : f 10 = .agg (encU x).toArray := hf 10 (by decide)
          have r42 : aA.eval (.tmp 42) = .agg (encU x).toArray := by rw [← hA]; exact putAll_at f 42 10 slotsCn10 a0 sbCn10 (by kernel_rfl) zsz rfl h42
          exact flw_call rfl rfl 11 #[(.tmp 38), (.tmp 42)] _ rfl #[aggC (putL (takeC zC sx) (L.take k)), .agg (encU x).toArray] (by simp only [List.map_toArray, List.map_cons, List.map_nil, r38, r42]) (fun w => by kernel_rfl) (fun v _ => v = aggC (putC (putL (takeC zC sx) (L.take k)) x)) (put_any (putL (takeC zC sx) (L.take k)) x w1 (HL.out.keep (HB.out.trans (hS.mono HB.out.size)) HSZ.out)) (fun v w' hr hb => ⟨hS.trans (hb.mono hS.size), Flz.of hb, (updF_self _ _ _).trans hr⟩)
      intro f u10 hS hf hap
      have h0 : f 0 = aggC (putL (putC zC sx) (L.take k)) := hf 0 (by decide)
      have h1 : f 1 = .slice (some aa) n ca := hf 1 (by decide)
      have h2 : f 2 = .int .i64 ((k : Int)) := hf 2 (by decide)
      have h3 : f 3 = .pointer (some (aa.add (k * 32))) := hf 3 (by decide)
      have h4 : f 4 = .agg (encU x).toArray := hf 4 (by decide)
      have h5 : f 5 = aggC (putC (putL (putC zC sx) (L.take k)) x) := hf 5 (by decide)
      have h6 : f 6 = aggC (putL (takeC zC sx) (L.take k)) := hf 6 (by decide)
      have h7 : f 7 = .slice (some aa) n ca := hf 7 (by decide)
      have h8 : f 8 = .int .i64 ((k : Int)) := hf 8 (by decide)
      have h9 : f 9 = .pointer (some (aa.add (k * 32))) := hf 9 (by decide)
      have h10 : f 10 = .agg (encU x).toArray := hf 10 (by decide)
      have h11 : f 11 = aggC (putC (putL (takeC zC sx) (L.take k)) x) := hf 11 (by decide)
      clear hf hap
      clear zsz z5 z1 z7 z6
      subst ha0
      simp only [slotsCn10, putAll, h0, h1, h2, h3, h4, h5, h6, h7, h8, h9, h10, h11, Act.put, List.setIfInBounds_toArray, List.set_cons_zero, List.set_cons_succ]
      clear h0 h1 h2 h3 h4 h5 h6 h7 h8 h9 h10 h11
      have hBS := HB.out.trans (hS.mono HB.out.size)
      replace HX_b5_3 := Lib.hid (HX_b5_3.out.keepB hS)
      replace HX_b6_3 := Lib.hid (HX_b6_3.out.keepB hS)
      replace HX1 := Lib.hid (HX1.out.keepB hS)
      clear hS
      refine tl_store rfl (by kernel_rfl) 28 (.tmp 5) (.tmp 37) rfl b5_3 (encC (putC (putL (putC zC sx) (L.take k)) x)) _ rfl rfl _ HX_b5_3.out (by rw [encC_len]; kernel_rfl) (by simp only [encC_len]) (encC_ones _) ?_
      intro w10_0 hp hbl hot
      replace HX_b6_3 : Hid (Has w10_0 b6_3 28 (encC (putL (takeC zC sx) (L.take k)))) := Lib.hid ((hot _ (Ne.symm HNE_b5_3_b6_3.out)).trans HX_b6_3.out)
      replace HX1 : Hid (Has w10_0 g1 23 (encU sx)) := Lib.hid ((hot _ (Ne.symm HNE_b5_3_g1.out)).trans HX1.out)
      replace HX_b5_3 : Hid (Has w10_0 b5_3 28 (encC (putC (putL (putC zC sx) (L.take k)) x))) := Lib.hid hp
      replace hBS := hBS.trans (hbl _ HGb5_3.out)
      clear hp hbl hot
      try simp only [Act.put]
      refine tl_store rfl (by kernel_rfl) 28 (.tmp 6) (.tmp 43) rfl b6_3 (encC (putC (putL (takeC zC sx) (L.take k)) x)) _ rfl rfl _ HX_b6_3.out (by rw [encC_len]; kernel_rfl) (by simp only [encC_len]) (encC_ones _) ?_
      intro w10 hp hbl hot
      replace HX_b5_3 : Hid (Has w10 b5_3 28 (encC (putC (putL (putC zC sx) (L.take k)) x))) := Lib.hid ((hot _ (HNE_b5_3_b6_3.out)).trans HX_b5_3.out)
      replace HX1 : Hid (Has w10 g1 23 (encU sx)) := Lib.hid ((hot _ (Ne.symm HNE_b6_3_g1.out)).trans HX1.out)
      replace HX_b6_3 : Hid (Has w10 b6_3 28 (encC (putC (putL (takeC zC sx) (L.take k)) x))) := Lib.hid hp
      replace hBS := hBS.trans (hbl _ HGb6_3.out)
      clear hp hbl hot
      try simp only [Act.put]
      refine tl_nilN ?_
      replace HB := Lib.hid hBS
      clear hBS
      go_wp2_with fail
      go_roundw
      case rel => exact ⟨k + 1, by omega, by go_num, (by rw [HTK.out, putL_snoc]; exact HX_b5_3.out), (by rw [HTK.out, putL_snoc]; exact HX_b6_3.out), HX1.out, HB.out⟩
      case measure => simp [intOf]; omega
    · obtain rfl : n = k := by omega
      have k3 : ¬ (n : Int) < (n : Int) := by omega
      have HTA : Hid (L.take n = L) := Lib.hid (List.take_of_length_le (Nat.le_of_eq HN.out))
      rw [HTA.out] at HX_b5_3 HX_b6_3
      clear HTA
      go_wp2_with fail
      go_loopw [8] (fun v wr => ∃ k : Nat, k ≤ n ∧ v = .int .i64 k ∧ Has wr b5_3 28 (encC (takeL (putL (putC zC sx) L) (L.take k))) ∧ Has wr b6_3 28 (encC (takeL (putL (takeC zC sx) L) (L.take k))) ∧ Has wr g1 23 (encU sx) ∧ Below w.heap.size w wr) (fun v _ => n - (intOf v).toNat)
      case atStart => exact ⟨0, by omega, rfl, HX_b5_3.out, HX_b6_3.out, HX1.out, HB.out⟩
      case round =>
        clear HX_b5_3 HX_b6_3 HX1 HB
        rename_i wr
        obtain ⟨k, hk, rfl, hx1, hx2, hx0, hB⟩ := hrel
        have HX_b5_3 := Lib.hid hx1
        have HX_b6_3 := Lib.hid hx2
        have HX1 := Lib.hid hx0
        have HB := Lib.hid hB
        clear hx0 hx1 hx2 hB
        by_cases hlt : k < n
        · have hkL : k < L.length := by rw [HN.out]; exact hlt
          obtain ⟨aa, rfl, _, hc⟩ := Ss.el HSA.out hkL
          have HTK : Hid (L.take (k + 1) = L.take k ++ [L[k]]) := Lib.hid (List.take_succ_eq_append_getElem hkL)
          have HEL : Hid (∀ w', Below w.heap.size w w' → ∀ j u, (encU L[k])[j]? = some u → w'.cell? ((aa.add (k * 32)).add j) = some u) := Lib.hid hc
          clear hc
          generalize L[k] = x at *
          have k3 : (k : Int) < (n : Int) := by omega
          go_upto_region 14 with fail
          have HST : Hid (Below wr.heap.size wr wr.drew) := Lib.hid (Below.refl _ _).drew
          replace HX_b5_3 := Lib.hid (HX_b5_3.out.keepB HST.out)
          replace HX_b6_3 := Lib.hid (HX_b6_3.out.keepB HST.out)
          replace HX1 := Lib.hid (HX1.out.keepB HST.out)
          replace HB := Lib.hid (HB.out.trans (HST.out.mono HB.out.size))
          clear HST
          refine wp_act (fun a0 ha0 => ?_)
          have zsz : a0.tmps.size = 95 := by rw [ha0]; rfl
          have z5 : a0.eval (.tmp 5) = .pointer (some ⟨b5_3, 0, none⟩) := by rw [ha0]; rfl
          have z1 : a0.eval (.tmp 1) = .slice (some aa) n ca := by rw [ha0]; rfl
          have z8 : a0.eval (.tmp 8) = .int .i64 ((k : Int)) := by rw [ha0]; rfl
          have z6 : a0.eval (.tmp 6) = .pointer (some ⟨b6_3, 0, none⟩) := by rw [ha0]; rfl
          refine wp_region_flw (E := Flz) [] slotsCn14 waitCn14 [Fct.val Flz 0 (aggC (takeL (putL (putC zC sx) L) (L.take k))), Fct.val Flz 1 (.slice (some aa) n ca), Fct.val Flz 2 (.int .i64 ((k : Int))), Fct.val Flz 3 (.pointer (some (aa.add (k * 32)))), Fct.val Flz 4 (.agg (encU x).toArray), Fct.val Flz 5 (aggC (takeC (takeL (putL (putC zC sx) L) (L.take k)) x)), Fct.val Flz 6 (aggC (takeL (putL (takeC zC sx) L) (L.take k))), Fct.val Flz 7 (.slice (some aa) n ca), Fct.val Flz 8 (.int .i64 ((k : Int))), Fct.val Flz 9 (.pointer (some (aa.add (k * 32)))), Fct.val Flz 10 (.agg (encU x).toArray), Fct.val Flz 11 (aggC (takeC (takeL (putL (takeC zC sx) L) (L.take k)) x))] (fun w' => Below wr.drew.heap.size wr.drew w') _ 12 2 chkCn14 (by kernel_rfl) rfl (by kernel_rfl) (by kernel_rfl) (by decide) (Below.refl _ _) ?_ ?_
          · refine lt_s (lt_s (lt_s (lt_s (lt_s (lt_s (lt_s (lt_s (lt_s (lt_s (lt_s (lt_s (lt_0) ?_) ?_) ?_) ?_) ?_) ?_) ?_) ?_) ?_) ?_) ?_) ?_
            · intro f w1 hS hf
              generalize hA : putAll _ _ f = aA
              have r5 : aA.eval (.tmp 5) = .pointer (some ⟨b5_3, 0, none⟩) := by rw [← hA]; exact putAll_off f 5 slotsCn14 a0 (by kernel_rfl) z5
              exact flw_val rfl rfl (aggC (takeL (putL (putC zC sx) L) (L.take k))) (ex_loadR 28 (.tmp 5) rfl ⟨b5_3, 0, none⟩ r5 (fun _ => by kernel_rfl) (encC (takeL (putL (putC zC sx) L) (L.take k))) (by rw [encC_len]; kernel_rfl) ((HX_b5_3.out.keepB hS).part (encC (takeL (putL (putC zC sx) L) (L.take k))) 0 (encC_all (takeL (putL (putC zC sx) L) (L.take k))))) hS (Flz.refl _) (updF_self _ _ _)
            · intro f w1 hS hf
              generalize hA : putAll _ _ f = aA
              have r1 : aA.eval (.tmp 1) = .slice (some aa) n ca := by rw [← hA]; exact putAll_off f 1 slotsCn14 a0 (by kernel_rfl) z1
              exact flw_val rfl rfl (.slice (some aa) n ca) (ex_move (.tmp 1) rfl r1) hS (Flz.refl _) (updF_self _ _ _)
            · intro f w1 hS hf
              generalize hA : putAll _ _ f = aA
              have r8 : aA.eval (.tmp 8) = .int .i64 ((k : Int)) := by rw [← hA]; exact putAll_off f 8 slotsCn14 a0 (by kernel_rfl) z8
              exact flw_val rfl rfl (.int .i64 ((k : Int))) (ex_move (.tmp 8) rfl r8) hS (Flz.refl _) (updF_self _ _ _)
            · intro f w1 hS hf
              generalize hA : putAll _ _ f = aA
              have h51 : f 1 = .slice (some aa) n ca := hf 1 (by decide)
              have r51 : aA.eval (.tmp 51) = .slice (some aa) n ca := by rw [← hA]; exact putAll_at f 51 1 slotsCn14 a0 sbCn14 (by kernel_rfl) zsz rfl h51
              have h52 : f 2 = .int .i64 ((k : Int)) := hf 2 (by decide)
              have r52 : aA.eval (.tmp 52) = .int .i64 ((k : Int)) := by rw [← hA]; exact putAll_at f 52 2 slotsCn14 a0 sbCn14 (by kernel_rfl) zsz rfl h52
              exact flw_val rfl rfl (.pointer (some (aa.add (k * 32)))) (ex_indexS 44 23 (.tmp 51) (.tmp 52) rfl aa n ca k 32 (by kernel_rfl) (fun _ => by kernel_rfl) r51 r52 hlt) hS (Flz.refl _) (updF_self _ _ _)
            · intro f w1 hS hf
              generalize hA : putAll _ _ f = aA
              have h53 : f 3 = .pointer (some (aa.add (k * 32))) := hf 3 (by decide)
              have r53 : aA.eval (.tmp 53) = .pointer (some (aa.add (k * 32))) := by rw [← hA]; exact putAll_at f 53 3 slotsCn14 a0 sbCn14 (by kernel_rfl) zsz rfl h53
              exact flw_val rfl rfl (.agg (encU x).toArray) (ex_loadR 23 (.tmp 53) rfl (aa.add (k * 32)) r53 (fun _ => by kernel_rfl) (encU x) (by rw [encU_len]; kernel_rfl) (HEL.out w1 (HB.out.trans (hS.mono HB.out.size)))) hS (Flz.refl _) (updF_self _ _ _)
            · intro f w1 hS hf
              generalize hA : putAll _ _ f = aA
              have h50 : f 0 = aggC (takeL (putL (putC zC sx) L) (L.take k)) := hf 0 (by decide)
              have r50 : aA.eval (.tmp 50) = aggC (takeL (putL (putC zC sx) L) (L.take k)) := by rw [← hA]; exact putAll_at f 50 0 slotsCn14 a0 sbCn14 (by kernel_rfl) zsz rfl h50
              have h54 : f 4 = .agg (encU x).toArray := hf 4 (by decide)
              have r54 : aA.eval (.tmp 54) = .agg (encU x).toArray := by rw [← hA]; exact putAll_at f 54 4 slotsCn14 a0 sbCn14 (by kernel_rfl) zsz rfl h54
              exact flw_call rfl rfl 14 #[(.tmp 50), (.tmp 54)] _ rfl #[aggC (takeL (putL (putC zC sx) L) (L.take k)), .agg (encU x).toArray] (by simp only [List.map_toArray, List.map_cons, List.map_nil, r50, r54]) (fun w => by kernel_rfl) (fun v _ => v = aggC (takeC (takeL (putL (putC zC sx) L) (L.take k)) x)) (take_any (takeL (putL (putC zC sx) L) (L.take k)) x w1 (HL.out.keep (HB.out.trans (hS.mono HB.out.size)) HSZ.out)) (fun v w' hr hb => ⟨hS.trans (hb.mono hS.size), Flz.of hb, (updF_self _ _ _).trans hr⟩)
            · intro f w1 hS hf
              generalize hA : putAll _ _ f = aA
              have r6 : aA.eval (.tmp 6) = .pointer (some ⟨b6_3, 0, none⟩) := by rw [← hA]; exact putAll_off f 6 slotsCn14 a0 (by kernel_rfl) z6
              exact flw_val rfl rfl (aggC (takeL (putL (takeC zC sx) L) (L.take k))) (ex_loadR 28 (.tmp 6) rfl ⟨b6_3, 0, none⟩ r6 (fun _ => by kernel_rfl) (encC (takeL (putL (takeC zC sx) L) (L.take k))) (by rw [encC_len]; kernel_rfl) ((HX_b6_3.out.keepB hS).part (encC (takeL (putL (takeC zC sx) L) (L.take k))) 0 (encC_all (takeL (putL (takeC zC sx) L) (L.take k))))) hS (Flz.refl _) (updF_self _ _ _)
            · intro f w1 hS hf
              generalize hA : putAll _ _ f = aA
              have r1 : aA.eval (.tmp 1) = .slice (some aa) n ca := by rw [← hA]; exact putAll_off f 1 slotsCn14 a0 (by kernel_rfl) z1
              exact flw_val rfl rfl (.slice (some aa) n ca) (ex_move (.tmp 1) rfl r1) hS (Flz.refl _) (updF_self _ _ _)
            · intro f w1 hS hf
              generalize hA : putAll _ _ f = aA
              have r8 : aA.eval (.tmp 8) = .int .i64 ((k : Int)) := by rw [← hA]; exact putAll_off f 8 slotsCn14 a0 (by kernel_rfl) z8
              exact flw_val rfl rfl (.int .i64 ((k : Int))) (ex_move (.tmp 8) rfl r8) hS (Flz.refl _) (updF_self _ _ _)
            · intro f w1 hS hf
              generalize hA : putAll _ _ f = aA
              have h57 : f 7 = .slice (some aa) n ca := hf 7 (by decide)
              have r57 : aA.eval (.tmp 57) = .slice (some aa) n ca := by rw [← hA]; exact putAll_at f 57 7 slotsCn14 a0 sbCn14 (by kernel_rfl) zsz rfl h57
              have h58 : f 8 = .int .i64 ((k : Int)) := hf 8 (by decide)
              have r58 : aA.eval (.tmp 58) = .int .i64 ((k : Int)) := by rw [← hA]; exact putAll_at f 58 8 slotsCn14 a0 sbCn14 (by kernel_rfl) zsz rfl h58
              exact flw_val rfl rfl (.pointer (some (aa.add (k * 32)))) (ex_indexS 44 23 (.tmp 57) (.tmp 58) rfl aa n ca k 32 (by kernel_rfl) (fun _ => by kernel_rfl) r57 r58 hlt) hS (Flz.refl _) (updF_self _ _ _)
            · intro f w1 hS hf
              generalize hA : putAll _ _ f = aA
              have h59 : f 9 = .pointer (some (aa.add (k * 32))) := hf 9 (by decide)
              have r59 : aA.eval (.tmp 59) = .pointer (some (aa.add (k * 32))) := by rw [← hA]; exact putAll_at f 59 9 slotsCn14 a0 sbCn14 (by kernel_rfl) zsz rfl h59
              exact flw_val rfl rfl (.agg (encU x).toArray) (ex_loadR 23 (.tmp 59) rfl (aa.add (k * 32)) r59 (fun _ => by kernel_rfl) (encU x) (by rw [encU_len]; kernel_rfl) (HEL.out w1 (HB.out.trans (hS.mono HB.out.size)))) hS (Flz.refl _) (updF_self _ _ _)
            · intro f w1 hS hf
              generalize hA : putAll _ _ f = aA
              have h56 : f 6 = aggC (takeL (putL (takeC zC sx) L) (L.take k)) := hf 6 (by decide)
              have r56 : aA.eval (.tmp 56) = aggC (takeL (putL (takeC zC sx) L) (L.take k)) := by rw [← hA]; exact putAll_at f 56 6 slotsCn14 a0 sbCn14 (by kernel_rfl) zsz rfl h56
              have h60 : f 10 = .agg (encU x).toArray := hf 10 (by decide)
              have r60 : aA.eval (.tmp 60) = .agg (encU x).toArray := by rw [← hA]; exact putAll_at f 60 10 slotsCn14 a0 sbCn14 (by kernel_rfl) zsz rfl h60
              exact flw_call rfl rfl 14 #[(.tmp 56), (.tmp 60)] _ rfl #[aggC (takeL (putL (takeC zC sx) L) (L.take k)), .agg (encU x).toArray] (by simp only [List.map_toArray, List.map_cons, List.map_nil, r56, r60]) (fun w => by kernel_rfl) (fun v _ => v = aggC (takeC (takeL (putL (takeC zC sx) L) (L.take k)) x)) (take_any (takeL (putL (takeC zC sx) L) (L.take k)) x w1 (HL.out.keep (HB.out.trans (hS.mono HB.out.size)) HSZ.out)) (fun v w' hr hb => ⟨hS.trans (hb.mono hS.size), Flz.of hb, (updF_self _ _ _).trans hr⟩)
          intro f u14 hS hf hap
          have h0 : f 0 = aggC (takeL (putL (putC zC sx) L) (L.take k)) := hf 0 (by decide)
          have h1 : f 1 = .slice (some aa) n ca := hf 1 (by decide)
          have h2 : f 2 = .int .i64 ((k : Int)) := hf 2 (by decide)
          have h3 : f 3 = .pointer (some (aa.add (k * 32))) := hf 3 (by decide)
          have h4 : f 4 = .agg (encU x).toArray := hf 4 (by decide)
          have h5 : f 5 = aggC (takeC (takeL (putL (putC zC sx) L) (L.take k)) x) := hf 5 (by decide)
          have h6 : f 6 = aggC (takeL (putL (takeC zC sx) L) (L.take k)) := hf 6 (by decide)
          have h7 : f 7 = .slice (some aa) n ca := hf 7 (by decide)
          have h8 : f 8 = .int .i64 ((k : Int)) := hf 8 (by decide)
          have h9 : f 9 = .pointer (some (aa.add (k * 32))) := hf 9 (by decide)
          have h10 : f 10 = .agg (encU x).toArray := hf 10 (by decide)
          have h11 : f 11 = aggC (takeC (takeL (putL (takeC zC sx) L) (L.take k)) x) := hf 11 (by decide)
          clear hf hap
          clear zsz z5 z1 z8 z6
          subst ha0
          simp only [slotsCn14, putAll, h0, h1, h2, h3, h4, h5, h6, h7, h8, h9, h10, h11, Act.put, List.setIfInBounds_toArray, List.set_cons_zero, List.set_cons_succ]
          clear h0 h1 h2 h3 h4 h5 h6 h7 h8 h9 h10 h11
          have hBS := HB.out.trans (hS.mono HB.out.size)
          replace HX_b5_3 := Lib.hid (HX_b5_3.out.keepB hS)
          replace HX_b6_3 := Lib.hid (HX_b6_3.out.keepB hS)
          replace HX1 := Lib.hid (HX1.out.keepB hS)
          clear hS
          refine tl_store rfl (by kernel_rfl) 28 (.tmp 5) (.tmp 55) rfl b5_3 (encC (takeC (takeL (putL (putC zC sx) L) (L.take k)) x)) _ rfl rfl _ HX_b5_3.out (by rw [encC_len]; kernel_rfl) (by simp only [encC_len]) (encC_ones _) ?_
          intro w14_0 hp hbl hot
          replace HX_b6_3 : Hid (Has w14_0 b6_3 28 (encC (takeL (putL (takeC zC sx) L) (L.take k)))) := Lib.hid ((hot _ (Ne.symm HNE_b5_3_b6_3.out)).trans HX_b6_3.out)
          replace HX1 : Hid (Has w14_0 g1 23 (encU sx)) := Lib.hid ((hot _ (Ne.symm HNE_b5_3_g1.out)).trans HX1.out)
          replace HX_b5_3 : Hid (Has w14_0 b5_3 28 (encC (takeC (takeL (putL (putC zC sx) L) (L.take k)) x))) := Lib.hid hp
          replace hBS := hBS.trans (hbl _ HGb5_3.out)
          clear hp hbl hot
          try simp only [Act.put]
          refine tl_store rfl (by kernel_rfl) 28 (.tmp 6) (.tmp 61) rfl b6_3 (encC (takeC (takeL (putL (takeC zC sx) L) (L.take k)) x)) _ rfl rfl _ HX_b6_3.out (by rw [encC_len]; kernel_rfl) (by simp only [encC_len]) (encC_ones _) ?_
          intro w14 hp hbl hot
          replace HX_b5_3 : Hid (Has w14 b5_3 28 (encC (takeC (takeL (putL (putC zC sx) L) (L.take k)) x))) := Lib.hid ((hot _ (HNE_b5_3_b6_3.out)).trans HX_b5_3.out)
          replace HX1 : Hid (Has w14 g1 23 (encU sx)) := Lib.hid ((hot _ (Ne.symm HNE_b6_3_g1.out)).trans HX1.out)
          replace HX_b6_3 : Hid (Has w14 b6_3 28 (encC (takeC (takeL (putL (takeC zC sx) L) (L.take k)) x))) := Lib.hid hp
          replace hBS := hBS.trans (hbl _ HGb6_3.out)
          clear hp hbl hot
          try simp only [Act.put]
          refine tl_nilN ?_
          replace HB := Lib.hid hBS
          clear hBS
          go_wp2_with fail
          go_roundw
          case rel => exact ⟨k + 1, by omega, by go_num, (by rw [HTK.out, takeL_snoc]; exact HX_b5_3.out), (by rw [HTK.out, takeL_snoc]; exact HX_b6_3.out), HX1.out, HB.out⟩
          case measure => simp [intOf]; omega
        · obtain rfl : n = k := by omega
          have k3 : ¬ (n : Int) < (n : Int) := by omega
          have HTA : Hid (L.take n = L) := Lib.hid (List.take_of_length_le (Nat.le_of_eq HN.out))
          rw [HTA.out] at HX_b5_3 HX_b6_3
          rw [take_putL (c := putC zC sx) (okC_with _ _ _ _)] at HX_b5_3
          rw [take_putL (c := takeC zC sx) (okC_with _ _ _ _)] at HX_b6_3
          clear HTA
          go_upto_region 15 with fail
          refine wp_act (fun a0 ha0 => ?_)
          have zsz : a0.tmps.size = 95 := by rw [ha0]; rfl
          have z5 : a0.eval (.tmp 5) = .pointer (some ⟨b5_3, 0, none⟩) := by rw [ha0]; rfl
          refine wp_region_flwo (E := Flz) [] slotsCn15 waitCn15 [Fct.val Flz 0 (aggC (putC zC sx)), Fct.val Flz 1 (.tuple #[.agg (encU sx).toArray, .bool true, .bool true]), Fct.val Flz 2 (.tuple #[.agg (encU sx).toArray, .bool true, .bool true]), Fct.val Flz 3 (.agg (encU sx).toArray), Fct.val Flz 4 (.bool true), Fct.val Flz 5 (.bool true), Fct.obj 6 (fun v w => ∃ g, v = .pointer (some ⟨g, 0, none⟩) ∧ wr.heap.size ≤ g ∧ Has w g 24 (encU zS)) (fun _ _ _ ⟨g, a, b, c⟩ he => ⟨g, a, b, c.flz he (by decide)⟩)] (fun w' => Below wr.heap.size wr w') _ 7 3 chkCn15 (by kernel_rfl) rfl (by kernel_rfl) (by decide) (Below.refl _ _) ?_ ?_
          · refine lt_s (lt_s (lt_s (lt_s (lt_s (lt_s (lt_s (lt_0) ?_) ?_) ?_) ?_) ?_) ?_) ?_
            · intro f w1 hS hf
              generalize hA : putAll _ _ f = aA
              have r5 : aA.eval (.tmp 5) = .pointer (some ⟨b5_3, 0, none⟩) := by rw [← hA]; exact putAll_off f 5 slotsCn15 a0 (by kernel_rfl) z5
              exact flw_val rfl rfl (aggC (putC zC sx)) (ex_loadR 28 (.tmp 5) rfl ⟨b5_3, 0, none⟩ r5 (fun _ => by kernel_rfl) (encC (putC zC sx)) (by rw [encC_len]; kernel_rfl) ((HX_b5_3.out.keepB hS).part (encC (putC zC sx)) 0 (encC_all (putC zC sx)))) hS (Flz.refl _) (updF_self _ _ _)
            · intro f w1 hS hf
              generalize hA : putAll _ _ f = aA
              have h63 : f 0 = aggC (putC zC sx) := hf 0 (by decide)
              have r63 : aA.eval (.tmp 63) = aggC (putC zC sx) := by rw [← hA]; exact putAll_at f 63 0 slotsCn15 a0 sbCn15 (by kernel_rfl) zsz rfl h63
              exact flw_call rfl rfl 12 #[(.tmp 63)] _ rfl #[aggC (putC zC sx)] (by simp only [List.map_toArray, List.map_cons, List.map_nil, r63]) (fun w => by kernel_rfl) (fun v _ => v = .tuple #[.agg (encU sx).toArray, .bool true, .bool true]) (as_any (pure_any (putC zC sx) w1 (HL.out.keep (HB.out.trans (hS.mono HB.out.size)) HSZ.out)) (pure_put _)) (fun v w' hr hb => ⟨hS.trans (hb.mono hS.size), Flz.of hb, (updF_self _ _ _).trans hr⟩)
            · intro f w1 hS hf
              generalize hA : putAll _ _ f = aA
              have h64 : f 1 = .tuple #[.agg (encU sx).toArray, .bool true, .bool true] := hf 1 (by decide)
              have r64 : aA.eval (.tmp 64) = .tuple #[.agg (encU sx).toArray, .bool true, .bool true] := by rw [← hA]; exact putAll_at f 64 1 slotsCn15 a0 sbCn15 (by kernel_rfl) zsz rfl h64
              exact flw_val rfl rfl (.tuple #[.agg (encU sx).toArray, .bool true, .bool true]) (ex_move (.tmp 64) rfl r64) hS (Flz.refl _) (updF_self _ _ _)
            · intro f w1 hS hf
              generalize hA : putAll _ _ f = aA
              have h62 : f 2 = .tuple #[.agg (encU sx).toArray, .bool true, .bool true] := hf 2 (by decide)
              have r62 : aA.eval (.tmp 62) = .tuple #[.agg (encU sx).toArray, .bool true, .bool true] := by rw [← hA]; exact putAll_at f 62 2 slotsCn15 a0 sbCn15 (by kernel_rfl) zsz rfl h62
              exact flw_val rfl rfl (.agg (encU sx).toArray) (ex_extract (.tmp 62) 0 rfl r62 rfl) hS (Flz.refl _) (updF_self _ _ _)
            · intro f w1 hS hf
              generalize hA : putAll _ _ f = aA
              have h62 : f 2 = .tuple #[.agg (encU sx).toArray, .bool true, .bool true] := hf 2 (by decide)
              have r62 : aA.eval (.tmp 62) = .tuple #[.agg (encU sx).toArray, .bool true, .bool true] := by rw [← hA]; exact putAll_at f 62 2 slotsCn15 a0 sbCn15 (by kernel_rfl) zsz rfl h62
              exact flw_val rfl rfl (.bool true) (ex_extract (.tmp 62) 1 rfl r62 rfl) hS (Flz.refl _) (updF_self _ _ _)
            · intro f w1 hS hf
              generalize hA : putAll _ _ f = aA
              have h62 : f 2 = .tuple #[.agg (encU sx).toArray, .bool true, .bool true] := hf 2 (by decide)
              have r62 : aA.eval (.tmp 62) = .tuple #[.agg (encU sx).toArray, .bool true, .bool true] := by rw [← hA]; exact putAll_at f 62 2 slotsCn15 a0 sbCn15 (by kernel_rfl) zsz rfl h62
              exact flw_val rfl rfl (.bool true) (ex_extract (.tmp 62) 2 rfl r62 rfl) hS (Flz.refl _) (updF_self _ _ _)
            · intro f w1 hS hf
              generalize hA : putAll _ _ f = aA
              exact flw_wp rfl rfl (fun K hK => wp_alloc_row 24 rfl (.agg (encU zS).toArray) (fun w => by kernel_rfl) (hK _ _ (hS.alloc hS.size _) (Flz.al _ _) ⟨_, updF_self _ _ _, hS.size, Has.made' _ _ _ _ rfl⟩))
          intro f u15 hS hf hap
          have h0 : f 0 = aggC (putC zC sx) := hf 0 (by decide)
          have h1 : f 1 = .tuple #[.agg (encU sx).toArray, .bool true, .bool true] := hf 1 (by decide)
          have h2 : f 2 = .tuple #[.agg (encU sx).toArray, .bool true, .bool true] := hf 2 (by decide)
          have h3 : f 3 = .agg (encU sx).toArray := hf 3 (by decide)
          have h4 : f 4 = .bool true := hf 4 (by decide)
          have h5 : f 5 = .bool true := hf 5 (by decide)
          obtain ⟨b15_6, h6, hgb6, hhb6⟩ := hf 6 (by decide)
          clear hf hap
          clear zsz z5
          subst ha0
          simp only [slotsCn15, putAll, h0, h1, h2, h3, h4, h5, h6, Act.put, List.setIfInBounds_toArray, List.set_cons_zero, List.set_cons_succ]
          clear h0 h1 h2 h3 h4 h5 h6
          refine tl_store rfl (by kernel_rfl) 24 (.tmp 9) (.tmp 65) rfl b15_6 (encU sx) _ rfl rfl _ hhb6 (by rw [encU_len]; kernel_rfl) (by simp only [encU_len]) (encU_all _) ?_
          intro w15 hp6 hbl hot
          replace hS := hS.trans (hbl _ hgb6)
          clear hbl hot hhb6
          try simp only [Act.put]
          refine tl_pure rfl (by kernel_rfl) (.bool true) (ex_assign (.tmp 66) rfl rfl) ?_
          try simp only [Act.put, List.setIfInBounds_toArray, List.set_cons_zero, List.set_cons_succ]
          refine tl_pure rfl (by kernel_rfl) (.bool true) (ex_assign (.tmp 67) rfl rfl) ?_
          try simp only [Act.put, List.setIfInBounds_toArray, List.set_cons_zero, List.set_cons_succ]
          refine tl_nil ?_
          replace HX_b5_3 := Lib.hid (HX_b5_3.out.keepB hS)
          replace HX_b6_3 := Lib.hid (HX_b6_3.out.keepB hS)
          replace HX1 := Lib.hid (HX1.out.keepB hS)
          have HBW := Lib.hid HB.out.size
          replace HB := Lib.hid (HB.out.trans (hS.mono HB.out.size))
          clear hS
          have HGb15_6 : Hid (w.heap.size ≤ b15_6) := Lib.hid (Nat.le_trans HBW.out hgb6)
          have HX_b15_6 : Hid (Has w15 b15_6 24 (encU sx)) := Lib.hid hp6
          clear hp6 hgb6
          clear HBW
          go_upto_region 16 with fail
          refine wp_act (fun a0 ha0 => ?_)
          have zsz : a0.tmps.size = 95 := by rw [ha0]; rfl
          have z6 : a0.eval (.tmp 6) = .pointer (some ⟨b6_3, 0, none⟩) := by rw [ha0]; rfl
          refine wp_region_flwo (E := Flz) [] slotsCn16 waitCn16 [Fct.val Flz 0 (aggC (takeC zC sx)), Fct.val Flz 1 (.tuple #[.agg (encU sx).toArray, .bool false, .bool true]), Fct.val Flz 2 (.tuple #[.agg (encU sx).toArray, .bool false, .bool true]), Fct.val Flz 3 (.agg (encU sx).toArray), Fct.val Flz 4 (.bool false), Fct.val Flz 5 (.bool true), Fct.obj 6 (fun v w => ∃ g, v = .pointer (some ⟨g, 0, none⟩) ∧ w15.heap.size ≤ g ∧ Has w g 24 (encU zS)) (fun _ _ _ ⟨g, a, b, c⟩ he => ⟨g, a, b, c.flz he (by decide)⟩)] (fun w' => Below w15.heap.size w15 w') _ 7 3 chkCn16 (by kernel_rfl) rfl (by kernel_rfl) (by decide) (Below.refl _ _) ?_ ?_
          · refine lt_s (lt_s (lt_s (lt_s (lt_s (lt_s (lt_s (lt_0) ?_) ?_) ?_) ?_) ?_) ?_) ?_
            · intro f w1 hS hf
              generalize hA : putAll _ _ f = aA
              have r6 : aA.eval (.tmp 6) = .pointer (some ⟨b6_3, 0, none⟩) := by rw [← hA]; exact putAll_off f 6 slotsCn16 a0 (by kernel_rfl) z6
              exact flw_val rfl rfl (aggC (takeC zC sx)) (ex_loadR 28 (.tmp 6) rfl ⟨b6_3, 0, none⟩ r6 (fun _ => by kernel_rfl) (encC (takeC zC sx)) (by rw [encC_len]; kernel_rfl) ((HX_b6_3.out.keepB hS).part (encC (takeC zC sx)) 0 (encC_all (takeC zC sx)))) hS (Flz.refl _) (updF_self _ _ _)
            · intro f w1 hS hf
              generalize hA : putAll _ _ f = aA
              have h69 : f 0 = aggC (takeC zC sx) := hf 0 (by decide)
              have r69 : aA.eval (.tmp 69) = aggC (takeC zC sx) := by rw [← hA]; exact putAll_at f 69 0 slotsCn16 a0 sbCn16 (by kernel_rfl) zsz rfl h69
              exact flw_call rfl rfl 12 #[(.tmp 69)] _ rfl #[aggC (takeC zC sx)] (by simp only [List.map_toArray, List.map_cons, List.map_nil, r69]) (fun w => by kernel_rfl) (fun v _ => v = .tuple #[.agg (encU sx).toArray, .bool false, .bool true]) (as_any (pure_any (takeC zC sx) w1 (HL.out.keep (HB.out.trans (hS.mono HB.out.size)) HSZ.out)) (pure_take _)) (fun v w' hr hb => ⟨hS.trans (hb.mono hS.size), Flz.of hb, (updF_self _ _ _).trans hr⟩)
            · intro f w1 hS hf
              generalize hA : putAll _ _ f = aA
              have h70 : f 1 = .tuple #[.agg (encU sx).toArray, .bool false, .bool true] := hf 1 (by decide)
              have r70 : aA.eval (.tmp 70) = .tuple #[.agg (encU sx).toArray, .bool false, .bool true] := by rw [← hA]; exact putAll_at f 70 1 slotsCn16 a0 sbCn16 (by kernel_rfl) zsz rfl h70
              exact flw_val rfl rfl (.tuple #[.agg (encU sx).toArray, .bool false, .bool true]) (ex_move (.tmp 70) rfl r70) hS (Flz.refl _) (updF_self _ _ _)
            · intro f w1 hS hf
              generalize hA : putAll _ _ f = aA
              have h68 : f 2 = .tuple #[.agg (encU sx).toArray, .bool false, .bool true] := hf 2 (by decide)
              have r68 : aA.eval (.tmp 68) = .tuple #[.agg (encU sx).toArray, .bool false, .bool true] := by rw [← hA]; exact putAll_at f 68 2 slotsCn16 a0 sbCn16 (by kernel_rfl) zsz rfl h68
              exact flw_val rfl rfl (.agg (encU sx).toArray) (ex_extract (.tmp 68) 0 rfl r68 rfl) hS (Flz.refl _) (updF_self _ _ _)
            · intro f w1 hS hf
              generalize hA : putAll _ _ f = aA
              have h68 : f 2 = .tuple #[.agg (encU sx).toArray, .bool false, .bool true] := hf 2 (by decide)
              have r68 : aA.eval (.tmp 68) = .tuple #[.agg (encU sx).toArray, .bool false, .bool true] := by rw [← hA]; exact putAll_at f 68 2 slotsCn16 a0 sbCn16 (by kernel_rfl) zsz rfl h68
              exact flw_val rfl rfl (.bool false) (ex_extract (.tmp 68) 1 rfl r68 rfl) hS (Flz.refl _) (updF_self _ _ _)
            · intro f w1 hS hf
              generalize hA : putAll _ _ f = aA
              have h68 : f 2 = .tuple #[.agg (encU sx).toArray, .bool false, .bool true] := hf 2 (by decide)
              have r68 : aA.eval (.tmp 68) = .tuple #[.agg (encU sx).toArray, .bool false, .bool true] := by rw [← hA]; exact putAll_at f 68 2 slotsCn16 a0 sbCn16 (by kernel_rfl) zsz rfl h68
              exact flw_val rfl rfl (.bool true) (ex_extract (.tmp 68) 2 rfl r68 rfl) hS (Flz.refl _) (updF_self _ _ _)
            · intro f w1 hS hf
              generalize hA : putAll _ _ f = aA
              exact flw_wp rfl rfl (fun K hK => wp_alloc_row 24 rfl (.agg (encU zS).toArray) (fun w => by kernel_rfl) (hK _ _ (hS.alloc hS.size _) (Flz.al _ _) ⟨_, updF_self _ _ _, hS.size, Has.made' _ _ _ _ rfl⟩))
          intro f u16 hS hf hap
          have h0 : f 0 = aggC (takeC zC sx) := hf 0 (by decide)
          have h1 : f 1 = .tuple #[.agg (encU sx).toArray, .bool false, .bool true] := hf 1 (by decide)
          have h2 : f 2 = .tuple #[.agg (encU sx).toArray, .bool false, .bool true] := hf 2 (by decide)
          have h3 : f 3 = .agg (encU sx).toArray := hf 3 (by decide)
          have h4 : f 4 = .bool false := hf 4 (by decide)
          have h5 : f 5 = .bool true := hf 5 (by decide)
          obtain ⟨b16_6, h6, hgb6, hhb6⟩ := hf 6 (by decide)
          clear hf hap
          clear zsz z6
          subst ha0
          simp only [slotsCn16, putAll, h0, h1, h2, h3, h4, h5, h6, Act.put, List.setIfInBounds_toArray, List.set_cons_zero, List.set_cons_succ]
          clear h0 h1 h2 h3 h4 h5 h6
          refine tl_store rfl (by kernel_rfl) 24 (.tmp 12) (.tmp 71) rfl b16_6 (encU sx) _ rfl rfl _ hhb6 (by rw [encU_len]; kernel_rfl) (by simp only [encU_len]) (encU_all _) ?_
          intro w16 hp6 hbl hot
          replace hS := hS.trans (hbl _ hgb6)
          clear hbl hot hhb6
          try simp only [Act.put]
          refine tl_pure rfl (by kernel_rfl) (.bool false) (ex_assign (.tmp 72) rfl rfl) ?_
          try simp only [Act.put, List.setIfInBounds_toArray, List.set_cons_zero, List.set_cons_succ]
          refine tl_pure rfl (by kernel_rfl) (.bool true) (ex_assign (.tmp 73) rfl rfl) ?_
          try simp only [Act.put, List.setIfInBounds_toArray, List.set_cons_zero, List.set_cons_succ]
          refine tl_nil ?_
          replace HX_b5_3 := Lib.hid (HX_b5_3.out.keepB hS)
          replace HX_b6_3 := Lib.hid (HX_b6_3.out.keepB hS)
          replace HX1 := Lib.hid (HX1.out.keepB hS)
          replace HX_b15_6 := Lib.hid (HX_b15_6.out.keepB hS)
          have HBW := Lib.hid HB.out.size
          replace HB := Lib.hid (HB.out.trans (hS.mono HB.out.size))
          clear hS
          have HGb16_6 : Hid (w.heap.size ≤ b16_6) := Lib.hid (Nat.le_trans HBW.out hgb6)
          have HX_b16_6 : Hid (Has w16 b16_6 24 (encU sx)) := Lib.hid hp6
          clear hp6 hgb6
          clear HBW
          go_upto_region 17 with fail
          refine wp_act (fun a0 ha0 => ?_)
          have zsz : a0.tmps.size = 95 := by rw [ha0]; rfl
          have z11 : a0.eval (.tmp 11) = .bool true := by rw [ha0]; rfl
          have z14 : a0.eval (.tmp 14) = .bool true := by rw [ha0]; rfl
          have z10 : a0.eval (.tmp 10) = .bool true := by rw [ha0]; rfl
          have z13 : a0.eval (.tmp 13) = .bool false := by rw [ha0]; rfl
          have z9 : a0.eval (.tmp 9) = .pointer (some ⟨b15_6, 0, none⟩) := by rw [ha0]; rfl
          have z2 : a0.eval (.tmp 2) = .pointer (some ⟨g1, 0, none⟩) := by rw [ha0]; rfl
          have z12 : a0.eval (.tmp 12) = .pointer (some ⟨b16_6, 0, none⟩) := by rw [ha0]; rfl
          refine wp_region_flwo (E := Flz) [] slotsCn17 waitCn17 [Fct.val Flz 0 (.bool true), Fct.val Flz 1 (.bool true), Fct.val Flz 2 (.bool true), Fct.val Flz 3 (.bool true), Fct.val Flz 4 (.bool true), Fct.val Flz 5 (.bool true), Fct.val Flz 6 (.bool true), Fct.val Flz 7 (.bool true), Fct.val Flz 8 (.bool false), Fct.val Flz 9 (.bool true), Fct.val Flz 10 (.bool true), Fct.val Flz 11 (.bool true), Fct.val Flz 12 (.agg (encU sx).toArray), Fct.val Flz 13 (.agg (encU sx).toArray), Fct.val Flz 14 (.bool true), Fct.val Flz 15 (.bool true), Fct.val Flz 16 (.bool true), Fct.val Flz 17 (.agg (encU sx).toArray), Fct.val Flz 18 (.agg (encU sx).toArray), Fct.val Flz 19 (.bool true), Fct.val Flz 20 (.bool true), Fct.val Flz 21 (.bool true)] (fun w' => Below w16.heap.size w16 w') _ 22 0 chkCn17 (by kernel_rfl) rfl (by kernel_rfl) (by decide) (Below.refl _ _) ?_ ?_
          · refine lt_s (lt_s (lt_s (lt_s (lt_s (lt_s (lt_s (lt_s (lt_s (lt_s (lt_s (lt_s (lt_s (lt_s (lt_s (lt_s (lt_s (lt_s (lt_s (lt_s (lt_s (lt_s (lt_0) ?_) ?_) ?_) ?_) ?_) ?_) ?_) ?_) ?_) ?_) ?_) ?_) ?_) ?_) ?_) ?_) ?_) ?_) ?_) ?_) ?_) ?_
            · intro f w1 hS hf
              generalize hA : putAll _ _ f = aA
              have r11 : aA.eval (.tmp 11) = .bool true := by rw [← hA]; exact putAll_off f 11 slotsCn17 a0 (by kernel_rfl) z11
              exact flw_val rfl rfl (.bool true) (ex_move (.tmp 11) rfl r11) hS (Flz.refl _) (updF_self _ _ _)
            · intro f w1 hS hf
              generalize hA : putAll _ _ f = aA
              have h74 : f 0 = .bool true := hf 0 (by decide)
              have r74 : aA.eval (.tmp 74) = .bool true := by rw [← hA]; exact putAll_at f 74 0 slotsCn17 a0 sbCn17 (by kernel_rfl) zsz rfl h74
              exact flw_val rfl rfl (.bool true) (ex_move (.tmp 74) rfl r74) hS (Flz.refl _) (updF_self _ _ _)
            · intro f w1 hS hf
              generalize hA : putAll _ _ f = aA
              have g75 : f 1 = .bool true := hf 1 (by decide)
              have t75 : aA.tmps[75]? = some (.bool true) := by rw [← hA]; exact putAll_g f 75 1 slotsCn17 a0 sbCn17 (by kernel_rfl) zsz rfl g75
              have r14 : aA.eval (.tmp 14) = .bool true := by rw [← hA]; exact putAll_off f 14 slotsCn17 a0 (by kernel_rfl) z14
              exact flw_val rfl ((wanted_of rfl 75 rfl t75).trans rfl) (.bool true) (ex_move (.tmp 14) rfl r14) hS (Flz.refl _) (updF_self _ _ _)
            · intro f w1 hS hf
              generalize hA : putAll _ _ f = aA
              have h75 : f 1 = .bool true := hf 1 (by decide)
              have r75 : aA.eval (.tmp 75) = .bool true := by rw [← hA]; exact putAll_at f 75 1 slotsCn17 a0 sbCn17 (by kernel_rfl) zsz rfl h75
              have h76 : f 2 = .bool true := hf 2 (by decide)
              have r76 : aA.eval (.tmp 76) = .bool true := by rw [← hA]; exact putAll_at f 76 2 slotsCn17 a0 sbCn17 (by kernel_rfl) zsz rfl h76
              exact flw_val rfl rfl (.bool true) (ex_pick (.tmp 75) (.tmp 76) _ rfl true r75 ((if_pos rfl).trans r76)) hS (Flz.refl _) (updF_self _ _ _)
            · intro f w1 hS hf
              generalize hA : putAll _ _ f = aA
              have h77 : f 3 = .bool true := hf 3 (by decide)
              have r77 : aA.eval (.tmp 77) = .bool true := by rw [← hA]; exact putAll_at f 77 3 slotsCn17 a0 sbCn17 (by kernel_rfl) zsz rfl h77
              exact flw_val rfl rfl (.bool true) (ex_move (.tmp 77) rfl r77) hS (Flz.refl _) (updF_self _ _ _)
            · intro f w1 hS hf
              generalize hA : putAll _ _ f = aA
              have g78 : f 4 = .bool true := hf 4 (by decide)
              have t78 : aA.tmps[78]? = some (.bool true) := by rw [← hA]; exact putAll_g f 78 4 slotsCn17 a0 sbCn17 (by kernel_rfl) zsz rfl g78
              have r10 : aA.eval (.tmp 10) = .bool true := by rw [← hA]; exact putAll_off f 10 slotsCn17 a0 (by kernel_rfl) z10
              exact flw_val rfl ((wanted_of rfl 78 rfl t78).trans rfl) (.bool true) (ex_move (.tmp 10) rfl r10) hS (Flz.refl _) (updF_self _ _ _)
            · intro f w1 hS hf
              generalize hA : putAll _ _ f = aA
              have h78 : f 4 = .bool true := hf 4 (by decide)
              have r78 : aA.eval (.tmp 78) = .bool true := by rw [← hA]; exact putAll_at f 78 4 slotsCn17 a0 sbCn17 (by kernel_rfl) zsz rfl h78
              have h79 : f 5 = .bool true := hf 5 (by decide)
              have r79 : aA.eval (.tmp 79) = .bool true := by rw [← hA]; exact putAll_at f 79 5 slotsCn17 a0 sbCn17 (by kernel_rfl) zsz rfl h79
              exact flw_val rfl rfl (.bool true) (ex_pick (.tmp 78) (.tmp 79) _ rfl true r78 ((if_pos rfl).trans r79)) hS (Flz.refl _) (updF_self _ _ _)
            · intro f w1 hS hf
              generalize hA : putAll _ _ f = aA
              have h80 : f 6 = .bool true := hf 6 (by decide)
              have r80 : aA.eval (.tmp 80) = .bool true := by rw [← hA]; exact putAll_at f 80 6 slotsCn17 a0 sbCn17 (by kernel_rfl) zsz rfl h80
              exact flw_val rfl rfl (.bool true) (ex_move (.tmp 80) rfl r80) hS (Flz.refl _) (updF_self _ _ _)
            · intro f w1 hS hf
              generalize hA : putAll _ _ f = aA
              have g81 : f 7 = .bool true := hf 7 (by decide)
              have t81 : aA.tmps[81]? = some (.bool true) := by rw [← hA]; exact putAll_g f 81 7 slotsCn17 a0 sbCn17 (by kernel_rfl) zsz rfl g81
              have r13 : aA.eval (.tmp 13) = .bool false := by rw [← hA]; exact putAll_off f 13 slotsCn17 a0 (by kernel_rfl) z13
              exact flw_val rfl ((wanted_of rfl 81 rfl t81).trans rfl) (.bool false) (ex_move (.tmp 13) rfl r13) hS (Flz.refl _) (updF_self _ _ _)
            · intro f w1 hS hf
              generalize hA : putAll _ _ f = aA
              have g81 : f 7 = .bool true := hf 7 (by decide)
              have t81 : aA.tmps[81]? = some (.bool true) := by rw [← hA]; exact putAll_g f 81 7 slotsCn17 a0 sbCn17 (by kernel_rfl) zsz rfl g81
              have h82 : f 8 = .bool false := hf 8 (by decide)
              have r82 : aA.eval (.tmp 82) = .bool false := by rw [← hA]; exact putAll_at f 82 8 slotsCn17 a0 sbCn17 (by kernel_rfl) zsz rfl h82
              exact flw_val rfl ((wanted_of rfl 81 rfl t81).trans rfl) (.bool true) (ex_not _ (.tmp 82) rfl r82) hS (Flz.refl _) (updF_self _ _ _)
            · intro f w1 hS hf
              generalize hA : putAll _ _ f = aA
              have h81 : f 7 = .bool true := hf 7 (by decide)
              have r81 : aA.eval (.tmp 81) = .bool true := by rw [← hA]; exact putAll_at f 81 7 slotsCn17 a0 sbCn17 (by kernel_rfl) zsz rfl h81
              have h83 : f 9 = .bool true := hf 9 (by decide)
              have r83 : aA.eval (.tmp 83) = .bool true := by rw [← hA]; exact putAll_at f 83 9 slotsCn17 a0 sbCn17 (by kernel_rfl) zsz rfl h83
              exact flw_val rfl rfl (.bool true) (ex_pick (.tmp 81) (.tmp 83) _ rfl true r81 ((if_pos rfl).trans r83)) hS (Flz.refl _) (updF_self _ _ _)
            · intro f w1 hS hf
              generalize hA : putAll _ _ f = aA
              have h84 : f 10 = .bool true := hf 10 (by decide)
              have r84 : aA.eval (.tmp 84) = .bool true := by rw [← hA]; exact putAll_at f 84 10 slotsCn17 a0 sbCn17 (by kernel_rfl) zsz rfl h84
              exact flw_val rfl rfl (.bool true) (ex_move (.tmp 84) rfl r84) hS (Flz.refl _) (updF_self _ _ _)
            · intro f w1 hS hf
              generalize hA : putAll _ _ f = aA
              have g85 : f 11 = .bool true := hf 11 (by decide)
              have t85 : aA.tmps[85]? = some (.bool true) := by rw [← hA]; exact putAll_g f 85 11 slotsCn17 a0 sbCn17 (by kernel_rfl) zsz rfl g85
              have r9 : aA.eval (.tmp 9) = .pointer (some ⟨b15_6, 0, none⟩) := by rw [← hA]; exact putAll_off f 9 slotsCn17 a0 (by kernel_rfl) z9
              exact flw_val rfl ((wanted_of rfl 85 rfl t85).trans rfl) (.agg (encU sx).toArray) (ex_loadR 24 (.tmp 9) rfl ⟨b15_6, 0, none⟩ r9 (fun _ => by kernel_rfl) (encU sx) (by rw [encU_len]; kernel_rfl) ((HX_b15_6.out.keepB hS).part (encU sx) 0 (encU_all' sx))) hS (Flz.refl _) (updF_self _ _ _)
            · intro f w1 hS hf
              generalize hA : putAll _ _ f = aA
              have g85 : f 11 = .bool true := hf 11 (by decide)
              have t85 : aA.tmps[85]? = some (.bool true) := by rw [← hA]; exact putAll_g f 85 11 slotsCn17 a0 sbCn17 (by kernel_rfl) zsz rfl g85
              have r2 : aA.eval (.tmp 2) = .pointer (some ⟨g1, 0, none⟩) := by rw [← hA]; exact putAll_off f 2 slotsCn17 a0 (by kernel_rfl) z2
              exact flw_val rfl ((wanted_of rfl 85 rfl t85).trans rfl) (.agg (encU sx).toArray) (ex_loadR 23 (.tmp 2) rfl ⟨g1, 0, none⟩ r2 (fun _ => by kernel_rfl) (encU sx) (by rw [encU_len]; kernel_rfl) ((HX1.out.keepB hS).part (encU sx) 0 (encU_all' sx))) hS (Flz.refl _) (updF_self _ _ _)
            · intro f w1 hS hf
              generalize hA : putAll _ _ f = aA
              have g85 : f 11 = .bool true := hf 11 (by decide)
              have t85 : aA.tmps[85]? = some (.bool true) := by rw [← hA]; exact putAll_g f 85 11 slotsCn17 a0 sbCn17 (by kernel_rfl) zsz rfl g85
              have h86 : f 12 = .agg (encU sx).toArray := hf 12 (by decide)
              have r86 : aA.eval (.tmp 86) = .agg (encU sx).toArray := by rw [← hA]; exact putAll_at f 86 12 slotsCn17 a0 sbCn17 (by kernel_rfl) zsz rfl h86
              have h87 : f 13 = .agg (encU sx).toArray := hf 13 (by decide)
              have r87 : aA.eval (.tmp 87) = .agg (encU sx).toArray := by rw [← hA]; exact putAll_at f 87 13 slotsCn17 a0 sbCn17 (by kernel_rfl) zsz rfl h87
              exact flw_val rfl ((wanted_of rfl 85 rfl t85).trans rfl) (.bool true) (Eq.trans (eql_su 24 (.tmp 86) (.tmp 87) _ rfl sx sx r86 r87 (by kernel_rfl) (by kernel_rfl)) (by rw [(decide_eq_true (rfl : sx = sx))])) hS (Flz.refl _) (updF_self _ _ _)
            · intro f w1 hS hf
              generalize hA : putAll _ _ f = aA
              have h85 : f 11 = .bool true := hf 11 (by decide)
              have r85 : aA.eval (.tmp 85) = .bool true := by rw [← hA]; exact putAll_at f 85 11 slotsCn17 a0 sbCn17 (by kernel_rfl) zsz rfl h85
              have h88 : f 14 = .bool true := hf 14 (by decide)
              have r88 : aA.eval (.tmp 88) = .bool true := by rw [← hA]; exact putAll_at f 88 14 slotsCn17 a0 sbCn17 (by kernel_rfl) zsz rfl h88
              exact flw_val rfl rfl (.bool true) (ex_pick (.tmp 85) (.tmp 88) _ rfl true r85 ((if_pos rfl).trans r88)) hS (Flz.refl _) (updF_self _ _ _)
            · intro f w1 hS hf
              generalize hA : putAll _ _ f = aA
              have h89 : f 15 = .bool true := hf 15 (by decide)
              have r89 : aA.eval (.tmp 89) = .bool true := by rw [← hA]; exact putAll_at f 89 15 slotsCn17 a0 sbCn17 (by kernel_rfl) zsz rfl h89
              exact flw_val rfl rfl (.bool true) (ex_move (.tmp 89) rfl r89) hS (Flz.refl _) (updF_self _ _ _)
            · intro f w1 hS hf
              generalize hA : putAll _ _ f = aA
              have g90 : f 16 = .bool true := hf 16 (by decide)
              have t90 : aA.tmps[90]? = some (.bool true) := by rw [← hA]; exact putAll_g f 90 16 slotsCn17 a0 sbCn17 (by kernel_rfl) zsz rfl g90
              have r12 : aA.eval (.tmp 12) = .pointer (some ⟨b16_6, 0, none⟩) := by rw [← hA]; exact putAll_off f 12 slotsCn17 a0 (by kernel_rfl) z12
              exact flw_val rfl ((wanted_of rfl 90 rfl t90).trans rfl) (.agg (encU sx).toArray) (ex_loadR 24 (.tmp 12) rfl ⟨b16_6, 0, none⟩ r12 (fun _ => by kernel_rfl) (encU sx) (by rw [encU_len]; kernel_rfl) ((HX_b16_6.out.keepB hS).part (encU sx) 0 (encU_all' sx))) hS (Flz.refl _) (updF_self _ _ _)
            · intro f w1 hS hf
              generalize hA : putAll _ _ f = aA
              have g90 : f 16 = .bool true := hf 16 (by decide)
              have t90 : aA.tmps[90]? = some (.bool true) := by rw [← hA]; exact putAll_g f 90 16 slotsCn17 a0 sbCn17 (by kernel_rfl) zsz rfl g90
              have r2 : aA.eval (.tmp 2) = .pointer (some ⟨g1, 0, none⟩) := by rw [← hA]; exact putAll_off f 2 slotsCn17 a0 (by kernel_rfl) z2
              exact flw_val rfl ((wanted_of rfl 90 rfl t90).trans rfl) (.agg (encU sx).toArray) (ex_loadR 23 (.tmp 2) rfl ⟨g1, 0, none⟩ r2 (fun _ => by kernel_rfl) (encU sx) (by rw [encU_len]; kernel_rfl) ((HX1.out.keepB hS).part (encU sx) 0 (encU_all' sx))) hS (Flz.refl _) (updF_self _ _ _)
            · intro f w1 hS hf
              generalize hA : putAll _ _ f = aA
              have g90 : f 16 = .bool true := hf 16 (by decide)
              have t90 : aA.tmps[90]? = some (.bool true) := by rw [← hA]; exact putAll_g f 90 16 slotsCn17 a0 sbCn17 (by kernel_rfl) zsz rfl g90
              have h91 : f 17 = .agg (encU sx).toArray := hf 17 (by decide)
              have r91 : aA.eval (.tmp 91) = .agg (encU sx).toArray := by rw [← hA]; exact putAll_at f 91 17 slotsCn17 a0 sbCn17 (by kernel_rfl) zsz rfl h91
              have h92 : f 18 = .agg (encU sx).toArray := hf 18 (by decide)
              have r92 : aA.eval (.tmp 92) = .agg (encU sx).toArray := by rw [← hA]; exact putAll_at f 92 18 slotsCn17 a0 sbCn17 (by kernel_rfl) zsz rfl h92
              exact flw_val rfl ((wanted_of rfl 90 rfl t90).trans rfl) (.bool true) (Eq.trans (eql_su 24 (.tmp 91) (.tmp 92) _ rfl sx sx r91 r92 (by kernel_rfl) (by kernel_rfl)) (by rw [(decide_eq_true (rfl : sx = sx))])) hS (Flz.refl _) (updF_self _ _ _)
            · intro f w1 hS hf
              generalize hA : putAll _ _ f = aA
              have h90 : f 16 = .bool true := hf 16 (by decide)
              have r90 : aA.eval (.tmp 90) = .bool true := by rw [← hA]; exact putAll_at f 90 16 slotsCn17 a0 sbCn17 (by kernel_rfl) zsz rfl h90
              have h93 : f 19 = .bool true := hf 19 (by decide)
              have r93 : aA.eval (.tmp 93) = .bool true := by rw [← hA]; exact putAll_at f 93 19 slotsCn17 a0 sbCn17 (by kernel_rfl) zsz rfl h93
              exact flw_val rfl rfl (.bool true) (ex_pick (.tmp 90) (.tmp 93) _ rfl true r90 ((if_pos rfl).trans r93)) hS (Flz.refl _) (updF_self _ _ _)
            · intro f w1 hS hf
              generalize hA : putAll _ _ f = aA
              have h94 : f 20 = .bool true := hf 20 (by decide)
              have r94 : aA.eval (.tmp 94) = .bool true := by rw [← hA]; exact putAll_at f 94 20 slotsCn17 a0 sbCn17 (by kernel_rfl) zsz rfl h94
              exact flw_val rfl rfl (.bool true) (ex_assign (.tmp 94) rfl r94) hS (Flz.refl _) (updF_self _ _ _)
          intro f w17 hS hf hap
          have h0 : f 0 = .bool true := hf 0 (by decide)
          have h1 : f 1 = .bool true := hf 1 (by decide)
          have h2 : f 2 = .bool true := hf 2 (by decide)
          have h3 : f 3 = .bool true := hf 3 (by decide)
          have h4 : f 4 = .bool true := hf 4 (by decide)
          have h5 : f 5 = .bool true := hf 5 (by decide)
          have h6 : f 6 = .bool true := hf 6 (by decide)
          have h7 : f 7 = .bool true := hf 7 (by decide)
          have h8 : f 8 = .bool false := hf 8 (by decide)
          have h9 : f 9 = .bool true := hf 9 (by decide)
          have h10 : f 10 = .bool true := hf 10 (by decide)
          have h11 : f 11 = .bool true := hf 11 (by decide)
          have h12 : f 12 = .agg (encU sx).toArray := hf 12 (by decide)
          have h13 : f 13 = .agg (encU sx).toArray := hf 13 (by decide)
          have h14 : f 14 = .bool true := hf 14 (by decide)
          have h15 : f 15 = .bool true := hf 15 (by decide)
          have h16 : f 16 = .bool true := hf 16 (by decide)
          have h17 : f 17 = .agg (encU sx).toArray := hf 17 (by decide)
          have h18 : f 18 = .agg (encU sx).toArray := hf 18 (by decide)
          have h19 : f 19 = .bool true := hf 19 (by decide)
          have h20 : f 20 = .bool true := hf 20 (by decide)
          have h21 : f 21 = .bool true := hf 21 (by decide)
          clear hf hap
          clear zsz z11 z14 z10 z13 z9 z2 z12
          subst ha0
          simp only [slotsCn17, putAll, h0, h1, h2, h3, h4, h5, h6, h7, h8, h9, h10, h11, h12, h13, h14, h15, h16, h17, h18, h19, h20, h21, Act.put, List.setIfInBounds_toArray, List.set_cons_zero, List.set_cons_succ]
          clear h0 h1 h2 h3 h4 h5 h6 h7 h8 h9 h10 h11 h12 h13 h14 h15 h16 h17 h18 h19 h20 h21
          refine tl_nil ?_
          replace HX_b5_3 := Lib.hid (HX_b5_3.out.keepB hS)
          replace HX_b6_3 := Lib.hid (HX_b6_3.out.keepB hS)
          replace HX1 := Lib.hid (HX1.out.keepB hS)
          replace HX_b15_6 := Lib.hid (HX_b15_6.out.keepB hS)
          replace HX_b16_6 := Lib.hid (HX_b16_6.out.keepB hS)
          replace HB := Lib.hid (HB.out.trans (hS.mono HB.out.size))
          clear hS
          go_wp2_with fail
          go_ret
          exact ⟨rfl, HB.out⟩
theorem cellOne_any (sx : Su) (L : List Su) (qa : Option Addr) (ca : Nat) (w : World) (hL : Laid w) (ha : Sees w w.heap.size qa (rowU L)) : Calls Tryd.prog 7 #[.agg (encU sx).toArray, .slice qa L.length ca] w fun e w' => (∃ v, e = .returned v ∧ v = .bool true) ∧ Below w.heap.size w w' := cellOne_b sx L qa ca w w (Below.refl _ _) hL ha
theorem cellOne_law (sx : Su) (L : List Su) (qa : Option Addr) (ca : Nat) (w : World) (hL : Laid w) (ha : Sees w w.heap.size qa (rowU L)) : Calls Tryd.prog 7 #[.agg (encU sx).toArray, .slice qa L.length ca] w fun e w' => e = .returned (.bool true) ∧ Below w.heap.size w w' :=
  Calls.mono (cellOne_any sx L qa ca w hL ha) (by rintro e w' ⟨⟨v, rfl, rfl⟩, h⟩; exact ⟨rfl, h⟩)
end Go.Proofs.YtihkbblapfjobaaDoor
