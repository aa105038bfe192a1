/- The law CellSays: it answers true. Condition: the sums' tables are laid. -/
import Derived.Test.YtihkbblapfjobaaDoorAw
import Derived.Test.YtihkbblapfjobaaDoorRck
namespace Go.Proofs.YtihkbblapfjobaaDoor
open Go.RowKit
theorem cs_put (a : Ce) (x : Su) : decide (putC a x = withC a 1 x (chkS x)) = true := decide_eq_true rfl
theorem cs_take (a : Ce) (x : Su) : decide (takeC a x = withC a (-1) x (chkS x)) = true := decide_eq_true rfl
def waitCs1 (i : Nat) : List Nat := ([[], [0]] : List (List Nat)).getD i []
def slotsCs1 : List (Nat × Nat) := [(15, 0), (16, 1)]
theorem sbCs1 : slotsB slotsCs1 = true := by kernel_rfl
theorem chkCs1 : flwO slotsCs1 waitCs1 2 (regOf Tryd.f4.body 1) = true := by kernel_rfl
def waitCs3 (i : Nat) : List Nat := ([[], [], [], [], [0, 2], [0, 1, 2, 3, 4]] : List (List Nat)).getD i []
def slotsCs3 : List (Nat × Nat) := [(17, 0), (18, 1), (7, 2), (8, 3)]
theorem sbCs3 : slotsB slotsCs3 = true := by kernel_rfl
theorem chkCs3 : flwB slotsCs3 waitCs3 5 (regOf Tryd.f4.body 3) = true := by kernel_rfl
def waitCs4 (i : Nat) : List Nat := ([[], [0], [], [2], [], [], [0, 1, 2, 3, 4, 5], [0, 1, 2, 3, 4, 5, 6]] : List (List Nat)).getD i []
def slotsCs4 : List (Nat × Nat) := [(19, 0), (20, 1), (21, 2), (22, 3), (9, 4), (10, 5)]
theorem sbCs4 : slotsB slotsCs4 = true := by kernel_rfl
theorem chkCs4 : flwB slotsCs4 waitCs4 6 (regOf Tryd.f4.body 4) = true := by kernel_rfl
def waitCs5 (i : Nat) : List Nat := ([[], [0], [1], [2], [2], [2], [], [0, 1, 2, 3, 4, 5, 6], [0, 1, 2, 3, 4, 5, 6, 7], [0, 1, 2, 3, 4, 5, 6, 7, 8]] : List (List Nat)).getD i []
def slotsCs5 : List (Nat × Nat) := [(24, 0), (25, 1), (23, 2), (26, 3), (27, 4), (28, 5), (11, 6), (12, 8), (13, 9)]
theorem sbCs5 : slotsB slotsCs5 = true := by kernel_rfl
theorem chkCs5 : flwO slotsCs5 waitCs5 7 (regOf Tryd.f4.body 5) = true := by kernel_rfl
def waitCs6 (i : Nat) : List Nat := ([[], [0], [1]] : List (List Nat)).getD i []
def slotsCs6 : List (Nat × Nat) := [(29, 0), (30, 1), (14, 2)]
theorem sbCs6 : slotsB slotsCs6 = true := by kernel_rfl
theorem chkCs6 : flwO slotsCs6 waitCs6 3 (regOf Tryd.f4.body 6) = true := by kernel_rfl
def waitCs7p (i : Nat) : List Nat := ([[], [0], [], [2], [1, 3], [4], [5], [5], [5, 6, 7], [5, 8], [5], [5], [5, 10, 11], [5, 9, 12], [5, 13], [14], [15], [15], [15, 16, 17], [15, 18], [15], [15], [15, 20, 21], [15, 19, 22], [15, 23], [24], [25], [25], [25, 26, 27], [25, 28], [25], [25], [25, 30, 31], [25, 29, 32], [25, 33], [34], [35], [35], [35, 36, 37], [35, 38], [39], [40], [40], [40, 42], [43], [43, 44], [43, 45], [40, 43, 46], [40, 41, 47], [40, 48], [49], [50], [50, 51], [50, 52], [53], [53], [53, 55], [53, 54, 56], [50, 53, 57], [50, 58], [59], [60], [60, 61], [62], [62], [60, 62, 64], [60, 65], [66], [67], [67, 68], [67], [67], [67, 70, 71], [67, 69, 72], [67, 73], [74]] : List (List Nat)).getD i []
def slotsCs7p : List (Nat × Nat) := [(31, 0), (32, 1), (33, 2), (34, 3), (35, 4), (36, 5), (37, 6), (38, 7), (39, 8), (40, 9), (41, 10), (42, 11), (43, 12), (44, 13), (45, 14), (46, 15), (47, 16), (48, 17), (49, 18), (50, 19), (51, 20), (52, 21), (53, 22), (54, 23), (55, 24), (56, 25), (57, 26), (58, 27), (59, 28), (60, 29), (61, 30), (62, 31), (63, 32), (64, 33), (65, 34), (66, 35), (67, 36), (68, 37), (69, 38), (70, 39), (71, 40), (72, 41), (73, 42), (74, 43), (75, 44), (76, 45), (77, 46), (78, 47), (79, 48), (80, 49), (81, 50), (82, 51), (83, 52), (84, 53), (85, 54), (86, 55), (87, 56), (88, 57), (89, 58), (90, 59), (91, 60), (92, 61), (93, 62), (94, 63), (95, 64), (96, 65), (97, 66), (98, 67), (99, 68), (100, 69), (101, 70), (102, 71), (103, 72), (104, 73), (105, 74), (6, 75)]
theorem sbCs7p : slotsB slotsCs7p = true := by kernel_rfl
theorem chkCs7p : flwB slotsCs7p waitCs7p 76 (regOf Tryd.f4.body 7) = true := by kernel_rfl
def waitCs7n (i : Nat) : List Nat := ([[], [0], [], [2], [1, 3], [4], [5], [5], [5, 6, 7], [5, 8], [5], [5], [5, 10, 11], [5, 9, 12], [5, 13], [14], [15], [15], [15, 16, 17], [15, 18], [15], [15], [15, 20, 21], [15, 19, 22], [15, 23], [24], [25], [25], [25, 26, 27], [25, 28], [25], [25], [25, 30, 31], [25, 29, 32], [25, 33], [34], [35], [35], [35, 36, 37], [35, 38], [39], [40], [40], [40, 42], [43], [43], [43], [40, 43, 46], [40, 41, 47], [40, 48], [49], [50], [50, 51], [50, 52], [53], [53], [53], [53], [50, 53, 57], [50, 58], [59], [60], [60, 61], [62], [62, 63], [60, 62, 64], [60, 65], [66], [67], [67, 68], [67], [67], [67, 70, 71], [67, 69, 72], [67, 73], [74]] : List (List Nat)).getD i []
def slotsCs7n : List (Nat × Nat) := [(31, 0), (32, 1), (33, 2), (34, 3), (35, 4), (36, 5), (37, 6), (38, 7), (39, 8), (40, 9), (41, 10), (42, 11), (43, 12), (44, 13), (45, 14), (46, 15), (47, 16), (48, 17), (49, 18), (50, 19), (51, 20), (52, 21), (53, 22), (54, 23), (55, 24), (56, 25), (57, 26), (58, 27), (59, 28), (60, 29), (61, 30), (62, 31), (63, 32), (64, 33), (65, 34), (66, 35), (67, 36), (68, 37), (69, 38), (70, 39), (71, 40), (72, 41), (73, 42), (74, 43), (75, 44), (76, 45), (77, 46), (78, 47), (79, 48), (80, 49), (81, 50), (82, 51), (83, 52), (84, 53), (85, 54), (86, 55), (87, 56), (88, 57), (89, 58), (90, 59), (91, 60), (92, 61), (93, 62), (94, 63), (95, 64), (96, 65), (97, 66), (98, 67), (99, 68), (100, 69), (101, 70), (102, 71), (103, 72), (104, 73), (105, 74), (6, 75)]
theorem sbCs7n : slotsB slotsCs7n = true := by kernel_rfl
theorem chkCs7n : flwB slotsCs7n waitCs7n 76 (regOf Tryd.f4.body 7) = true := by kernel_rfl
set_option maxHeartbeats 16000000 in
set_option maxRecDepth 100000 in
theorem cellSays_b (a : Ce) (b : Ce) (sx : Su) (w w0 : World) (hB : Below w.heap.size w w0) (hL : Laid w) : Calls Tryd.prog 4 #[aggC a, aggC b, .agg (encU sx).toArray] w0 fun e w' => (∃ v, e = .returned v ∧ v = .bool true) ∧ Below w.heap.size w w' := by
  go_enter Tryd.func4, Tryd.ntmps4
  have HB := Lib.hid hB
  clear hB
  have HL := Lib.hid hL
  have HSZ := Lib.hid hL.size
  clear hL
  go_upto_region 0 with fail
  refine wp_region_lit ?_
  try simp only [Act.put, List.setIfInBounds_toArray, List.set_cons_zero, List.set_cons_succ]
  refine lp_step rfl (fun K hK => wp_box_row 28 (.tmp 0) rfl (aggC a) rfl (hK _ _ ?_))
  try simp only [Act.put, List.setIfInBounds_toArray, List.set_cons_zero, List.set_cons_succ]
  show wpList _ _ _ _ _ (w0.alloc (.cells (encC a).toArray 28))
  have HST : Hid (Below w0.heap.size w0 (w0.alloc (.cells (encC a).toArray 28))) := Lib.hid ((Below.refl _ _).alloc (Nat.le_refl _) _)
  have HX1 : Hid (Has (w0.alloc (.cells (encC a).toArray 28)) w0.heap.size 28 (encC a)) := Lib.hid (Has.made' _ _ _ _ rfl)
  have HGg1 : Hid (w.heap.size ≤ w0.heap.size) := Lib.hid HB.out.size
  replace HB := Lib.hid (HB.out.trans (HST.out.mono HB.out.size))
  clear HST
  generalize w0.alloc (.cells (encC a).toArray 28) = w1 at *
  generalize w0.heap.size = g1 at *
  refine lp_step rfl (fun K hK => wp_box_row 28 (.tmp 1) rfl (aggC b) rfl (hK _ _ ?_))
  try simp only [Act.put, List.setIfInBounds_toArray, List.set_cons_zero, List.set_cons_succ]
  show wpList _ _ _ _ _ (w1.alloc (.cells (encC b).toArray 28))
  have HST : Hid (Below w1.heap.size w1 (w1.alloc (.cells (encC b).toArray 28))) := Lib.hid ((Below.refl _ _).alloc (Nat.le_refl _) _)
  have HX2 : Hid (Has (w1.alloc (.cells (encC b).toArray 28)) w1.heap.size 28 (encC b)) := Lib.hid (Has.made' _ _ _ _ rfl)
  replace HX1 := Lib.hid (HX1.out.keepB HST.out)
  have HGg2 : Hid (w.heap.size ≤ w1.heap.size) := Lib.hid HB.out.size
  replace HB := Lib.hid (HB.out.trans (HST.out.mono HB.out.size))
  clear HST
  generalize w1.alloc (.cells (encC b).toArray 28) = w2 at *
  generalize w1.heap.size = g2 at *
  refine lp_step rfl (fun K hK => wp_box_row 23 (.tmp 2) rfl (.agg (encU sx).toArray) rfl (hK _ _ ?_))
  try simp only [Act.put, List.setIfInBounds_toArray, List.set_cons_zero, List.set_cons_succ]
  show wpList _ _ _ _ _ (w2.alloc (.cells (encU sx).toArray 23))
  have HST : Hid (Below w2.heap.size w2 (w2.alloc (.cells (encU sx).toArray 23))) := Lib.hid ((Below.refl _ _).alloc (Nat.le_refl _) _)
  have HX3 : Hid (Has (w2.alloc (.cells (encU sx).toArray 23)) w2.heap.size 23 (encU sx)) := Lib.hid (Has.made' _ _ _ _ rfl)
  replace HX1 := Lib.hid (HX1.out.keepB HST.out)
  replace HX2 := Lib.hid (HX2.out.keepB HST.out)
  have HGg3 : Hid (w.heap.size ≤ w2.heap.size) := Lib.hid HB.out.size
  replace HB := Lib.hid (HB.out.trans (HST.out.mono HB.out.size))
  clear HST
  generalize w2.alloc (.cells (encU sx).toArray 23) = w3 at *
  generalize w2.heap.size = g3 at *
  refine lp_pure rfl (ex_assign _ rfl rfl) ?_
  try simp only [Act.put, List.setIfInBounds_toArray, List.set_cons_zero, List.set_cons_succ]
  refine wpList_nil ?_
  go_upto_region 1 with fail
  refine wp_act (fun a0 ha0 => ?_)
  have zsz : a0.tmps.size = 106 := by rw [ha0]; rfl
  refine wp_region_flwo (E := Flz) [] slotsCs1 waitCs1 [Fct.val Flz 0 (.bool true), Fct.val Flz 1 (.bool false)] (fun w' => Below w3.heap.size w3 w') _ 2 0 chkCs1 (by kernel_rfl) (by kernel_rfl) (by kernel_rfl) (by decide) (Below.refl _ _) ?_ ?_
  · refine lt_s (lt_s (lt_0) ?_) ?_
    · intro f w1 hS hf
      generalize hA : putAll _ _ f = aA
      exact flw_call rfl rfl 9 #[] _ rfl #[] (by kernel_rfl) (fun w => by kernel_rfl) (fun v _ => v = .bool true) (awake13_any w1 (HL.out.keep (HB.out.trans (hS.mono HB.out.size)) HSZ.out)) (fun v w' hr hb => ⟨hS.trans (hb.mono hS.size), Flz.of hb, (updF_self _ _ _).trans hr⟩)
    · intro f w1 hS hf
      generalize hA : putAll _ _ f = aA
      have h15 : f 0 = .bool true := hf 0 (by decide)
      have r15 : aA.eval (.tmp 15) = .bool true := by rw [← hA]; exact putAll_at f 15 0 slotsCs1 a0 sbCs1 (by kernel_rfl) zsz rfl h15
      exact flw_val rfl rfl (.bool false) (ex_not _ (.tmp 15) rfl r15) hS (Flz.refl _) (updF_self _ _ _)
  intro f w4 hS hf hap
  have h0 : f 0 = .bool true := hf 0 (by decide)
  have h1 : f 1 = .bool false := hf 1 (by decide)
  clear hf hap
  clear zsz
  subst ha0
  simp only [slotsCs1, putAll, h0, h1, Act.put, List.setIfInBounds_toArray, List.set_cons_zero, List.set_cons_succ]
  clear h0 h1
  refine tl_nil ?_
  replace HX1 := Lib.hid (HX1.out.keepB hS)
  replace HX2 := Lib.hid (HX2.out.keepB hS)
  replace HX3 := Lib.hid (HX3.out.keepB hS)
  replace HB := Lib.hid (HB.out.trans (hS.mono HB.out.size))
  clear hS
  go_upto_region 3 with fail
  have HST : Hid (Below w4.heap.size w4 w4.drew) := Lib.hid (Below.refl _ _).drew
  replace HX1 := Lib.hid (HX1.out.keepB HST.out)
  replace HX2 := Lib.hid (HX2.out.keepB HST.out)
  replace HX3 := Lib.hid (HX3.out.keepB HST.out)
  replace HB := Lib.hid (HB.out.trans (HST.out.mono HB.out.size))
  clear HST
  refine wp_act (fun a0 ha0 => ?_)
  have zsz : a0.tmps.size = 106 := by rw [ha0]; rfl
  have z5 : a0.eval (.tmp 5) = .pointer (some ⟨g3, 0, none⟩) := by rw [ha0]; rfl
  refine wp_region_flw (E := (Flf 24 (encU sx))) [] slotsCs3 waitCs3 [Fct.val (Flf 24 (encU sx)) 0 (.agg (encU sx).toArray), Fct.val (Flf 24 (encU sx)) 1 (.agg (encU sx).toArray), Fct.shape 24 (encU sx) 2 w4.drew.heap.size, Fct.obj 3 (fun v w => ∃ g, v = .pointer (some ⟨g, 0, none⟩) ∧ w4.drew.heap.size ≤ g ∧ Has w g 35 (encU zS)) (fun _ _ _ ⟨g, a, b, c⟩ he => ⟨g, a, b, (he.2 _ _ _ c).2 (Or.inl (by decide))⟩), Fct.held 24 (encU sx) 2 w4.drew.heap.size] (fun w' => Below w4.drew.heap.size w4.drew w') _ 5 1 chkCs3 (by kernel_rfl) (by kernel_rfl) (by kernel_rfl) (by kernel_rfl) (by decide) (Below.refl _ _) ?_ ?_
  · refine lt_s (lt_s (lt_s (lt_s (lt_s (lt_0) ?_) ?_) ?_) ?_) ?_
    · intro f w1 hS hf
      generalize hA : putAll _ _ f = aA
      have r5 : aA.eval (.tmp 5) = .pointer (some ⟨g3, 0, none⟩) := by rw [← hA]; exact putAll_off f 5 slotsCs3 a0 (by kernel_rfl) z5
      exact flw_val rfl rfl (.agg (encU sx).toArray) (ex_loadR 23 (.tmp 5) rfl ⟨g3, 0, none⟩ r5 (fun _ => by kernel_rfl) (encU sx) (by rw [encU_len]; kernel_rfl) ((HX3.out.keepB hS).part (encU sx) 0 (encU_all' sx))) hS (Flf.refl _) (updF_self _ _ _)
    · intro f w1 hS hf
      generalize hA : putAll _ _ f = aA
      have r5 : aA.eval (.tmp 5) = .pointer (some ⟨g3, 0, none⟩) := by rw [← hA]; exact putAll_off f 5 slotsCs3 a0 (by kernel_rfl) z5
      exact flw_val rfl rfl (.agg (encU sx).toArray) (ex_loadR 23 (.tmp 5) rfl ⟨g3, 0, none⟩ r5 (fun _ => by kernel_rfl) (encU sx) (by rw [encU_len]; kernel_rfl) ((HX3.out.keepB hS).part (encU sx) 0 (encU_all' sx))) hS (Flf.refl _) (updF_self _ _ _)
    · intro f w1 hS hf
      generalize hA : putAll _ _ f = aA
      exact flw_wp rfl rfl (fun K hK => wp_alloc_row 24 rfl (.agg (encU zS).toArray) (fun w => by kernel_rfl) (hK _ _ (hS.alloc hS.size _) (Flf.al _ _) ⟨_, _, updF_self _ _ _, hS.size, Has.made' _ _ _ _ rfl, by simp only [encU_len]⟩))
    · intro f w1 hS hf
      generalize hA : putAll _ _ f = aA
      exact flw_wp rfl rfl (fun K hK => wp_alloc_row 35 rfl (.agg (encU zS).toArray) (fun w => by kernel_rfl) (hK _ _ (hS.alloc hS.size _) (Flf.al _ _) ⟨_, updF_self _ _ _, hS.size, Has.made' _ _ _ _ rfl⟩))
    · intro f w1 hS hf
      generalize hA : putAll _ _ f = aA
      have e7 : aA.eval (.tmp 7) = f 2 := by rw [← hA]; exact putAll_at f 7 2 slotsCs3 a0 sbCs3 (by kernel_rfl) zsz rfl rfl
      have h17 : f 0 = .agg (encU sx).toArray := hf 0 (by decide)
      have r17 : aA.eval (.tmp 17) = .agg (encU sx).toArray := by rw [← hA]; exact putAll_at f 17 0 slotsCs3 a0 sbCs3 (by kernel_rfl) zsz rfl h17
      obtain ⟨g, old, hv, hg, ho, hol⟩ := hf 2 (by decide)
      exact flw_wp rfl rfl (fun K hK => wp_store_row 24 (.tmp 7) (.tmp 17) rfl g (encU sx).toArray (e7.trans hv) r17 24 old.toArray ho (by rw [List.size_toArray, encU_len]; kernel_rfl) (by rw [List.size_toArray, List.size_toArray]; exact hol) (encU_all _) (hK _ _ (below_row hS hg _) (Flf.store ho hol) ⟨g, (updF_ne f _ (by decide)).trans hv, hg, ho.rowl _⟩))
  intro f u3 hS hf hap
  have h0 : f 0 = .agg (encU sx).toArray := hf 0 (by decide)
  have h1 : f 1 = .agg (encU sx).toArray := hf 1 (by decide)
  obtain ⟨b3_3, h3, hgb3, hhb3⟩ := hf 3 (by decide)
  obtain ⟨b3_2, h2, hgb2, hhb2⟩ := hf 4 (by decide)
  clear hf hap
  clear zsz z5
  subst ha0
  simp only [slotsCs3, putAll, h0, h1, h3, h2, Act.put, List.setIfInBounds_toArray, List.set_cons_zero, List.set_cons_succ]
  clear h0 h1 h3 h2
  refine tl_store rfl (by kernel_rfl) 35 (.tmp 8) (.tmp 18) rfl b3_3 (encU sx) _ rfl rfl _ hhb3 (by rw [encU_len]; kernel_rfl) (by simp only [encU_len]) (encU_all _) ?_
  intro w5 hp3 hbl hot
  replace hS := hS.trans (hbl _ hgb3)
  replace hhb2 := (hot _ (Has.apartT hhb2 hhb3 (by decide))).trans hhb2
  clear hbl hot hhb3
  try simp only [Act.put]
  refine tl_nilN ?_
  replace HX1 := Lib.hid (HX1.out.keepB hS)
  replace HX2 := Lib.hid (HX2.out.keepB hS)
  replace HX3 := Lib.hid (HX3.out.keepB hS)
  have HBW := Lib.hid HB.out.size
  replace HB := Lib.hid (HB.out.trans (hS.mono HB.out.size))
  clear hS
  have HGb3_2 : Hid (w.heap.size ≤ b3_2) := Lib.hid (Nat.le_trans HBW.out hgb2)
  have HX_b3_2 : Hid (Has w5 b3_2 24 (encU sx)) := Lib.hid hhb2
  clear hhb2 hgb2
  have HGb3_3 : Hid (w.heap.size ≤ b3_3) := Lib.hid (Nat.le_trans HBW.out hgb3)
  have HX_b3_3 : Hid (Has w5 b3_3 35 (encU sx)) := Lib.hid hp3
  clear hp3 hgb3
  clear HBW
  go_upto_region 4 with fail
  have HST : Hid (Below w5.heap.size w5 w5.drew) := Lib.hid (Below.refl _ _).drew
  replace HX1 := Lib.hid (HX1.out.keepB HST.out)
  replace HX2 := Lib.hid (HX2.out.keepB HST.out)
  replace HX3 := Lib.hid (HX3.out.keepB HST.out)
  replace HX_b3_2 := Lib.hid (HX_b3_2.out.keepB HST.out)
  replace HX_b3_3 := Lib.hid (HX_b3_3.out.keepB HST.out)
  replace HB := Lib.hid (HB.out.trans (HST.out.mono HB.out.size))
  clear HST
  refine wp_act (fun a0 ha0 => ?_)
  have zsz : a0.tmps.size = 106 := by rw [ha0]; rfl
  have z3 : a0.eval (.tmp 3) = .pointer (some ⟨g1, 0, none⟩) := by rw [ha0]; rfl
  have z4 : a0.eval (.tmp 4) = .pointer (some ⟨g2, 0, none⟩) := by rw [ha0]; rfl
  refine wp_region_flw (E := Flz) [4, 5] slotsCs4 waitCs4 [Fct.val Flz 0 (aggC a), Fct.val Flz 1 (aggC a), Fct.val Flz 2 (aggC b), Fct.val Flz 3 (aggC b), Fct.obj 4 (fun v w => ∃ g, v = .pointer (some ⟨g, 0, none⟩) ∧ w5.drew.heap.size ≤ g ∧ Has w g 37 (encC zC)) (fun _ _ _ ⟨g, a, b, c⟩ he => ⟨g, a, b, c.flz he (by decide)⟩), Fct.obj 5 (fun v w => ∃ g, v = .pointer (some ⟨g, 0, none⟩) ∧ w5.drew.heap.size ≤ g ∧ Has w g 37 (encC zC)) (fun _ _ _ ⟨g, a, b, c⟩ he => ⟨g, a, b, c.flz he (by decide)⟩)] (fun w' => Below w5.drew.heap.size w5.drew w') _ 6 2 chkCs4 (by kernel_rfl) (by kernel_rfl) (by kernel_rfl) (by kernel_rfl) (by decide) (Below.refl _ _) ?_ ?_
  · refine lt_s (lt_s (lt_s (lt_s (lt_s (lt_s (lt_0) ?_) ?_) ?_) ?_) ?_) ?_
    · intro f w1 hS hf
      generalize hA : putAll _ _ f = aA
      have r3 : aA.eval (.tmp 3) = .pointer (some ⟨g1, 0, none⟩) := by rw [← hA]; exact putAll_off f 3 slotsCs4 a0 (by kernel_rfl) z3
      exact flw_val rfl rfl (aggC a) (ex_loadR 28 (.tmp 3) rfl ⟨g1, 0, none⟩ r3 (fun _ => by kernel_rfl) (encC a) (by rw [encC_len]; kernel_rfl) ((HX1.out.keepB hS).part (encC a) 0 (encC_all a))) hS (Flz.refl _) (updF_self _ _ _)
    · intro f w1 hS hf
      generalize hA : putAll _ _ f = aA
      have h19 : f 0 = aggC a := hf 0 (by decide)
      have r19 : aA.eval (.tmp 19) = aggC a := by rw [← hA]; exact putAll_at f 19 0 slotsCs4 a0 sbCs4 (by kernel_rfl) zsz rfl h19
      exact flw_call rfl rfl 17 #[(.tmp 19)] _ rfl #[aggC a] (by simp only [List.map_toArray, List.map_cons, List.map_nil, r19]) (fun w => by kernel_rfl) (fun v _ => v = aggC a) (cellOf_any a w1) (fun v w' hr hb => ⟨hS.trans (hb.mono hS.size), Flz.of hb, (updF_self _ _ _).trans hr⟩)
    · intro f w1 hS hf
      generalize hA : putAll _ _ f = aA
      have r4 : aA.eval (.tmp 4) = .pointer (some ⟨g2, 0, none⟩) := by rw [← hA]; exact putAll_off f 4 slotsCs4 a0 (by kernel_rfl) z4
      exact flw_val rfl rfl (aggC b) (ex_loadR 28 (.tmp 4) rfl ⟨g2, 0, none⟩ r4 (fun _ => by kernel_rfl) (encC b) (by rw [encC_len]; kernel_rfl) ((HX2.out.keepB hS).part (encC b) 0 (encC_all b))) hS (Flz.refl _) (updF_self _ _ _)
    · intro f w1 hS hf
      generalize hA : putAll _ _ f = aA
      have h21 : f 2 = aggC b := hf 2 (by decide)
      have r21 : aA.eval (.tmp 21) = aggC b := by rw [← hA]; exact putAll_at f 21 2 slotsCs4 a0 sbCs4 (by kernel_rfl) zsz rfl h21
      exact flw_call rfl rfl 17 #[(.tmp 21)] _ rfl #[aggC b] (by simp only [List.map_toArray, List.map_cons, List.map_nil, r21]) (fun w => by kernel_rfl) (fun v _ => v = aggC b) (cellOf_any b w1) (fun v w' hr hb => ⟨hS.trans (hb.mono hS.size), Flz.of hb, (updF_self _ _ _).trans hr⟩)
    · intro f w1 hS hf
      generalize hA : putAll _ _ f = aA
      exact flw_wpA rfl rfl (fun K hK => wp_alloc_row 37 rfl (aggC zC) (fun w => by kernel_rfl) (hK _ _ (hS.alloc hS.size _) (Flz.al _ _) ⟨_, updF_self _ _ _, hS.size, Has.made' _ _ _ _ rfl⟩ (by
        intro i hi hne hl
        simp only [List.mem_cons, List.not_mem_nil, or_false] at hi
        rcases hi with rfl | rfl
        · exact absurd rfl hne
        · obtain ⟨g', hl1, _, hl2⟩ := hl
          rw [hl1]
          exact ptr_ne hl2.lt)))
    · intro f w1 hS hf
      generalize hA : putAll _ _ f = aA
      exact flw_wpA rfl rfl (fun K hK => wp_alloc_row 37 rfl (aggC zC) (fun w => by kernel_rfl) (hK _ _ (hS.alloc hS.size _) (Flz.al _ _) ⟨_, updF_self _ _ _, hS.size, Has.made' _ _ _ _ rfl⟩ (by
        intro i hi hne hl
        simp only [List.mem_cons, List.not_mem_nil, or_false] at hi
        rcases hi with rfl | rfl
        · obtain ⟨g', hl1, _, hl2⟩ := hl
          rw [hl1]
          exact ptr_ne hl2.lt
        · exact absurd rfl hne)))
  intro f u4 hS hf hap
  have h0 : f 0 = aggC a := hf 0 (by decide)
  have h1 : f 1 = aggC a := hf 1 (by decide)
  have h2 : f 2 = aggC b := hf 2 (by decide)
  have h3 : f 3 = aggC b := hf 3 (by decide)
  obtain ⟨b4_4, h4, hgb4, hhb4⟩ := hf 4 (by decide)
  obtain ⟨b4_5, h5, hgb5, hhb5⟩ := hf 5 (by decide)
  have hne4_5 : b4_4 ≠ b4_5 := fun e => hap 4 (by decide) 5 (by decide) (by decide) (by rw [h4, h5, e])
  clear hf hap
  clear zsz z3 z4
  subst ha0
  simp only [slotsCs4, putAll, h0, h1, h2, h3, h4, h5, Act.put, List.setIfInBounds_toArray, List.set_cons_zero, List.set_cons_succ]
  clear h0 h1 h2 h3 h4 h5
  refine tl_store rfl (by kernel_rfl) 37 (.tmp 9) (.tmp 20) rfl b4_4 (encC a) _ rfl rfl _ hhb4 (by rw [encC_len]; kernel_rfl) (by simp only [encC_len]) (encC_ones _) ?_
  intro w6_1 hp4 hbl hot
  replace hS := hS.trans (hbl _ hgb4)
  replace hhb5 := (hot _ (Ne.symm hne4_5)).trans hhb5
  clear hbl hot hhb4
  try simp only [Act.put]
  refine tl_store rfl (by kernel_rfl) 37 (.tmp 10) (.tmp 22) rfl b4_5 (encC b) _ rfl rfl _ hhb5 (by rw [encC_len]; kernel_rfl) (by simp only [encC_len]) (encC_ones _) ?_
  intro w6 hp5 hbl hot
  replace hS := hS.trans (hbl _ hgb5)
  replace hp4 := (hot _ hne4_5).trans hp4
  clear hbl hot hhb5
  try simp only [Act.put]
  refine tl_nilN ?_
  replace HX1 := Lib.hid (HX1.out.keepB hS)
  replace HX2 := Lib.hid (HX2.out.keepB hS)
  replace HX3 := Lib.hid (HX3.out.keepB hS)
  replace HX_b3_2 := Lib.hid (HX_b3_2.out.keepB hS)
  replace HX_b3_3 := Lib.hid (HX_b3_3.out.keepB hS)
  have HBW := Lib.hid HB.out.size
  replace HB := Lib.hid (HB.out.trans (hS.mono HB.out.size))
  clear hS
  have HGb4_4 : Hid (w.heap.size ≤ b4_4) := Lib.hid (Nat.le_trans HBW.out hgb4)
  have HX_b4_4 : Hid (Has w6 b4_4 37 (encC a)) := Lib.hid hp4
  clear hp4 hgb4
  have HGb4_5 : Hid (w.heap.size ≤ b4_5) := Lib.hid (Nat.le_trans HBW.out hgb5)
  have HX_b4_5 : Hid (Has w6 b4_5 37 (encC b)) := Lib.hid hp5
  clear hp5 hgb5
  clear HBW
  have HNE_b4_4_b4_5 := Lib.hid hne4_5
  clear hne4_5
  cases hp : isPure a with
  | true =>
    go_upto_region 5 with fail
    refine wp_act (fun a0 ha0 => ?_)
    have zsz : a0.tmps.size = 106 := by rw [ha0]; rfl
    have z3 : a0.eval (.tmp 3) = .pointer (some ⟨g1, 0, none⟩) := by rw [ha0]; rfl
    refine wp_region_flwo (E := Flz) [] slotsCs5 waitCs5 [Fct.val Flz 0 (aggC a), Fct.val Flz 1 (.tuple #[.agg (encU a.2.1).toArray, .bool (a.1 == (1 : Int)), .bool true]), Fct.val Flz 2 (.tuple #[.agg (encU a.2.1).toArray, .bool (a.1 == (1 : Int)), .bool true]), Fct.val Flz 3 (.agg (encU a.2.1).toArray), Fct.val Flz 4 (.bool (a.1 == (1 : Int))), Fct.val Flz 5 (.bool true), Fct.obj 6 (fun v w => ∃ g, v = .pointer (some ⟨g, 0, none⟩) ∧ w6.heap.size ≤ g ∧ Has w g 24 (encU zS)) (fun _ _ _ ⟨g, a, b, c⟩ he => ⟨g, a, b, c.flz he (by decide)⟩)] (fun w' => Below w6.heap.size w6 w') _ 7 3 chkCs5 (by kernel_rfl) (by kernel_rfl) (by kernel_rfl) (by decide) (Below.refl _ _) ?_ ?_
    · refine lt_s (lt_s (lt_s (lt_s (lt_s (lt_s (lt_s (lt_0) ?_) ?_) ?_) ?_) ?_) ?_) ?_
      · intro f w1 hS hf
        generalize hA : putAll _ _ f = aA
        have r3 : aA.eval (.tmp 3) = .pointer (some ⟨g1, 0, none⟩) := by rw [← hA]; exact putAll_off f 3 slotsCs5 a0 (by kernel_rfl) z3
        exact flw_val rfl rfl (aggC a) (ex_loadR 28 (.tmp 3) rfl ⟨g1, 0, none⟩ r3 (fun _ => by kernel_rfl) (encC a) (by rw [encC_len]; kernel_rfl) ((HX1.out.keepB hS).part (encC a) 0 (encC_all a))) hS (Flz.refl _) (updF_self _ _ _)
      · intro f w1 hS hf
        generalize hA : putAll _ _ f = aA
        have h24 : f 0 = aggC a := hf 0 (by decide)
        have r24 : aA.eval (.tmp 24) = aggC a := by rw [← hA]; exact putAll_at f 24 0 slotsCs5 a0 sbCs5 (by kernel_rfl) zsz rfl h24
        exact flw_call rfl rfl 12 #[(.tmp 24)] _ rfl #[aggC a] (by simp only [List.map_toArray, List.map_cons, List.map_nil, r24]) (fun w => by kernel_rfl) (fun v _ => v = .tuple #[.agg (encU a.2.1).toArray, .bool (a.1 == (1 : Int)), .bool true]) (as_any (pure_any a w1 (HL.out.keep (HB.out.trans (hS.mono HB.out.size)) HSZ.out)) (pureV_on hp)) (fun v w' hr hb => ⟨hS.trans (hb.mono hS.size), Flz.of hb, (updF_self _ _ _).trans hr⟩)
      · intro f w1 hS hf
        generalize hA : putAll _ _ f = aA
        have h25 : f 1 = .tuple #[.agg (encU a.2.1).toArray, .bool (a.1 == (1 : Int)), .bool true] := hf 1 (by decide)
        have r25 : aA.eval (.tmp 25) = .tuple #[.agg (encU a.2.1).toArray, .bool (a.1 == (1 : Int)), .bool true] := by rw [← hA]; exact putAll_at f 25 1 slotsCs5 a0 sbCs5 (by kernel_rfl) zsz rfl h25
        exact flw_val rfl rfl (.tuple #[.agg (encU a.2.1).toArray, .bool (a.1 == (1 : Int)), .bool true]) (ex_move (.tmp 25) rfl r25) hS (Flz.refl _) (updF_self _ _ _)
      · intro f w1 hS hf
        generalize hA : putAll _ _ f = aA
        have h23 : f 2 = .tuple #[.agg (encU a.2.1).toArray, .bool (a.1 == (1 : Int)), .bool true] := hf 2 (by decide)
        have r23 : aA.eval (.tmp 23) = .tuple #[.agg (encU a.2.1).toArray, .bool (a.1 == (1 : Int)), .bool true] := by rw [← hA]; exact putAll_at f 23 2 slotsCs5 a0 sbCs5 (by kernel_rfl) zsz rfl h23
        exact flw_val rfl rfl (.agg (encU a.2.1).toArray) (ex_extract (.tmp 23) 0 rfl r23 rfl) hS (Flz.refl _) (updF_self _ _ _)
      · intro f w1 hS hf
        generalize hA : putAll _ _ f = aA
        have h23 : f 2 = .tuple #[.agg (encU a.2.1).toArray, .bool (a.1 == (1 : Int)), .bool true] := hf 2 (by decide)
        have r23 : aA.eval (.tmp 23) = .tuple #[.agg (encU a.2.1).toArray, .bool (a.1 == (1 : Int)), .bool true] := by rw [← hA]; exact putAll_at f 23 2 slotsCs5 a0 sbCs5 (by kernel_rfl) zsz rfl h23
        exact flw_val rfl rfl (.bool (a.1 == (1 : Int))) (ex_extract (.tmp 23) 1 rfl r23 rfl) hS (Flz.refl _) (updF_self _ _ _)
      · intro f w1 hS hf
        generalize hA : putAll _ _ f = aA
        have h23 : f 2 = .tuple #[.agg (encU a.2.1).toArray, .bool (a.1 == (1 : Int)), .bool true] := hf 2 (by decide)
        have r23 : aA.eval (.tmp 23) = .tuple #[.agg (encU a.2.1).toArray, .bool (a.1 == (1 : Int)), .bool true] := by rw [← hA]; exact putAll_at f 23 2 slotsCs5 a0 sbCs5 (by kernel_rfl) zsz rfl h23
        exact flw_val rfl rfl (.bool true) (ex_extract (.tmp 23) 2 rfl r23 rfl) hS (Flz.refl _) (updF_self _ _ _)
      · intro f w1 hS hf
        generalize hA : putAll _ _ f = aA
        exact flw_wp rfl rfl (fun K hK => wp_alloc_row 24 rfl (.agg (encU zS).toArray) (fun w => by kernel_rfl) (hK _ _ (hS.alloc hS.size _) (Flz.al _ _) ⟨_, updF_self _ _ _, hS.size, Has.made' _ _ _ _ rfl⟩))
    intro f u5 hS hf hap
    have h0 : f 0 = aggC a := hf 0 (by decide)
    have h1 : f 1 = .tuple #[.agg (encU a.2.1).toArray, .bool (a.1 == (1 : Int)), .bool true] := hf 1 (by decide)
    have h2 : f 2 = .tuple #[.agg (encU a.2.1).toArray, .bool (a.1 == (1 : Int)), .bool true] := hf 2 (by decide)
    have h3 : f 3 = .agg (encU a.2.1).toArray := hf 3 (by decide)
    have h4 : f 4 = .bool (a.1 == (1 : Int)) := hf 4 (by decide)
    have h5 : f 5 = .bool true := hf 5 (by decide)
    obtain ⟨b5_6, h6, hgb6, hhb6⟩ := hf 6 (by decide)
    clear hf hap
    clear zsz z3
    subst ha0
    simp only [slotsCs5, putAll, h0, h1, h2, h3, h4, h5, h6, Act.put, List.setIfInBounds_toArray, List.set_cons_zero, List.set_cons_succ]
    clear h0 h1 h2 h3 h4 h5 h6
    refine tl_store rfl (by kernel_rfl) 24 (.tmp 11) (.tmp 26) rfl b5_6 (encU a.2.1) _ rfl rfl _ hhb6 (by rw [encU_len]; kernel_rfl) (by simp only [encU_len]) (encU_all _) ?_
    intro w7 hp6 hbl hot
    replace hS := hS.trans (hbl _ hgb6)
    clear hbl hot hhb6
    try simp only [Act.put]
    refine tl_pure rfl (by kernel_rfl) (.bool (a.1 == (1 : Int))) (ex_assign (.tmp 27) rfl rfl) ?_
    try simp only [Act.put, List.setIfInBounds_toArray, List.set_cons_zero, List.set_cons_succ]
    refine tl_pure rfl (by kernel_rfl) (.bool true) (ex_assign (.tmp 28) rfl rfl) ?_
    try simp only [Act.put, List.setIfInBounds_toArray, List.set_cons_zero, List.set_cons_succ]
    refine tl_nil ?_
    replace HX1 := Lib.hid (HX1.out.keepB hS)
    replace HX2 := Lib.hid (HX2.out.keepB hS)
    replace HX3 := Lib.hid (HX3.out.keepB hS)
    replace HX_b3_2 := Lib.hid (HX_b3_2.out.keepB hS)
    replace HX_b3_3 := Lib.hid (HX_b3_3.out.keepB hS)
    replace HX_b4_4 := Lib.hid (HX_b4_4.out.keepB hS)
    replace HX_b4_5 := Lib.hid (HX_b4_5.out.keepB hS)
    have HBW := Lib.hid HB.out.size
    replace HB := Lib.hid (HB.out.trans (hS.mono HB.out.size))
    clear hS
    have HGb5_6 : Hid (w.heap.size ≤ b5_6) := Lib.hid (Nat.le_trans HBW.out hgb6)
    have HX_b5_6 : Hid (Has w7 b5_6 24 (encU a.2.1)) := Lib.hid hp6
    clear hp6 hgb6
    clear HBW
    go_upto_region 6 with fail
    refine wp_act (fun a0 ha0 => ?_)
    have zsz : a0.tmps.size = 106 := by rw [ha0]; rfl
    have z9 : a0.eval (.tmp 9) = .pointer (some ⟨b4_4, 0, none⟩) := by rw [ha0]; rfl
    refine wp_region_flwo (E := Flz) [] slotsCs6 waitCs6 [Fct.val Flz 0 (aggC a), Fct.val Flz 1 (.bool true), Fct.val Flz 2 (.bool true)] (fun w' => Below w7.heap.size w7 w') _ 3 0 chkCs6 (by kernel_rfl) (by kernel_rfl) (by kernel_rfl) (by decide) (Below.refl _ _) ?_ ?_
    · refine lt_s (lt_s (lt_s (lt_0) ?_) ?_) ?_
      · intro f w1 hS hf
        generalize hA : putAll _ _ f = aA
        have r9 : aA.eval (.tmp 9) = .pointer (some ⟨b4_4, 0, none⟩) := by rw [← hA]; exact putAll_off f 9 slotsCs6 a0 (by kernel_rfl) z9
        exact flw_val rfl rfl (aggC a) (ex_loadR 37 (.tmp 9) rfl ⟨b4_4, 0, none⟩ r9 (fun _ => by kernel_rfl) (encC a) (by rw [encC_len]; kernel_rfl) ((HX_b4_4.out.keepB hS).part (encC a) 0 (encC_all a))) hS (Flz.refl _) (updF_self _ _ _)
      · intro f w1 hS hf
        generalize hA : putAll _ _ f = aA
        have h29 : f 0 = aggC a := hf 0 (by decide)
        have r29 : aA.eval (.tmp 29) = aggC a := by rw [← hA]; exact putAll_at f 29 0 slotsCs6 a0 sbCs6 (by kernel_rfl) zsz rfl h29
        exact flw_call rfl rfl 18 #[(.tmp 29)] _ rfl #[aggC a] (by simp only [List.map_toArray, List.map_cons, List.map_nil, r29]) (fun w => by kernel_rfl) (fun v _ => v = .bool true) (as_any (rpure_any a w1) (congrArg Value.bool hp)) (fun v w' hr hb => ⟨hS.trans (hb.mono hS.size), Flz.of hb, (updF_self _ _ _).trans hr⟩)
      · intro f w1 hS hf
        generalize hA : putAll _ _ f = aA
        have h30 : f 1 = .bool true := hf 1 (by decide)
        have r30 : aA.eval (.tmp 30) = .bool true := by rw [← hA]; exact putAll_at f 30 1 slotsCs6 a0 sbCs6 (by kernel_rfl) zsz rfl h30
        exact flw_val rfl rfl (.bool true) (ex_assign (.tmp 30) rfl r30) hS (Flz.refl _) (updF_self _ _ _)
    intro f u6 hS hf hap
    have h0 : f 0 = aggC a := hf 0 (by decide)
    have h1 : f 1 = .bool true := hf 1 (by decide)
    have h2 : f 2 = .bool true := hf 2 (by decide)
    clear hf hap
    clear zsz z9
    subst ha0
    simp only [slotsCs6, putAll, h0, h1, h2, Act.put, List.setIfInBounds_toArray, List.set_cons_zero, List.set_cons_succ]
    clear h0 h1 h2
    refine tl_nil ?_
    replace HX1 := Lib.hid (HX1.out.keepB hS)
    replace HX2 := Lib.hid (HX2.out.keepB hS)
    replace HX3 := Lib.hid (HX3.out.keepB hS)
    replace HX_b3_2 := Lib.hid (HX_b3_2.out.keepB hS)
    replace HX_b3_3 := Lib.hid (HX_b3_3.out.keepB hS)
    replace HX_b4_4 := Lib.hid (HX_b4_4.out.keepB hS)
    replace HX_b4_5 := Lib.hid (HX_b4_5.out.keepB hS)
    replace HX_b5_6 := Lib.hid (HX_b5_6.out.keepB hS)
    replace HB := Lib.hid (HB.out.trans (hS.mono HB.out.size))
    clear hS
    go_upto_region 7 with fail
    have HST : Hid (Below u6.heap.size u6 u6.drew) := Lib.hid (Below.refl _ _).drew
    replace HX1 := Lib.hid (HX1.out.keepB HST.out)
    replace HX2 := Lib.hid (HX2.out.keepB HST.out)
    replace HX3 := Lib.hid (HX3.out.keepB HST.out)
    replace HX_b3_2 := Lib.hid (HX_b3_2.out.keepB HST.out)
    replace HX_b3_3 := Lib.hid (HX_b3_3.out.keepB HST.out)
    replace HX_b4_4 := Lib.hid (HX_b4_4.out.keepB HST.out)
    replace HX_b4_5 := Lib.hid (HX_b4_5.out.keepB HST.out)
    replace HX_b5_6 := Lib.hid (HX_b5_6.out.keepB HST.out)
    replace HB := Lib.hid (HB.out.trans (HST.out.mono HB.out.size))
    clear HST
    try simp only [List.append_eq, List.cons_append, List.nil_append]
    refine wp_act (fun a0 ha0 => ?_)
    have zsz : a0.tmps.size = 106 := by rw [ha0]; rfl
    have z7 : a0.eval (.tmp 7) = .pointer (some ⟨b3_2, 0, none⟩) := by rw [ha0]; rfl
    have z8 : a0.eval (.tmp 8) = .pointer (some ⟨b3_3, 0, none⟩) := by rw [ha0]; rfl
    have z3 : a0.eval (.tmp 3) = .pointer (some ⟨g1, 0, none⟩) := by rw [ha0]; rfl
    have z9 : a0.eval (.tmp 9) = .pointer (some ⟨b4_4, 0, none⟩) := by rw [ha0]; rfl
    have z4 : a0.eval (.tmp 4) = .pointer (some ⟨g2, 0, none⟩) := by rw [ha0]; rfl
    have z10 : a0.eval (.tmp 10) = .pointer (some ⟨b4_5, 0, none⟩) := by rw [ha0]; rfl
    have z13 : a0.eval (.tmp 13) = .bool true := by rw [ha0]; rfl
    have z14 : a0.eval (.tmp 14) = .bool true := by rw [ha0]; rfl
    have z12 : a0.eval (.tmp 12) = .bool (a.1 == (1 : Int)) := by rw [ha0]; rfl
    have z11 : a0.eval (.tmp 11) = .pointer (some ⟨b5_6, 0, none⟩) := by rw [ha0]; rfl
    refine wp_region_flw (E := Flz) [] slotsCs7p waitCs7p [Fct.val Flz 0 (.agg (encU sx).toArray), Fct.val Flz 1 (.agg (encU (chkS sx)).toArray), Fct.val Flz 2 (.agg (encU sx).toArray), Fct.val Flz 3 (.agg (encU (chkS sx)).toArray), Fct.val Flz 4 (.bool true), Fct.val Flz 5 (.bool true), Fct.val Flz 6 (aggC a), Fct.val Flz 7 (.agg (encU sx).toArray), Fct.val Flz 8 (aggC (putC a sx)), Fct.val Flz 9 (aggC (putC a sx)), Fct.val Flz 10 (aggC a), Fct.val Flz 11 (.agg (encU sx).toArray), Fct.val Flz 12 (aggC (withC a 1 sx (chkS sx))), Fct.val Flz 13 (.bool true), Fct.val Flz 14 (.bool true), Fct.val Flz 15 (.bool true), Fct.val Flz 16 (aggC a), Fct.val Flz 17 (.agg (encU sx).toArray), Fct.val Flz 18 (aggC (takeC a sx)), Fct.val Flz 19 (aggC (takeC a sx)), Fct.val Flz 20 (aggC a), Fct.val Flz 21 (.agg (encU sx).toArray), Fct.val Flz 22 (aggC (withC a (-1) sx (chkS sx))), Fct.val Flz 23 (.bool true), Fct.val Flz 24 (.bool true), Fct.val Flz 25 (.bool true), Fct.val Flz 26 (aggC a), Fct.val Flz 27 (aggC b), Fct.val Flz 28 (aggC (minusC a b)), Fct.val Flz 29 (aggC (minusC a b)), Fct.val Flz 30 (aggC a), Fct.val Flz 31 (aggC b), Fct.val Flz 32 (aggC (minusC a b)), Fct.val Flz 33 (.bool true), Fct.val Flz 34 (.bool true), Fct.val Flz 35 (.bool true), Fct.val Flz 36 (.bool true), Fct.val Flz 37 (.bool true), Fct.val Flz 38 (.bool true), Fct.val Flz 39 (.bool true), Fct.val Flz 40 (.bool true), Fct.val Flz 41 (.bool (a.1 == (1 : Int))), Fct.val Flz 42 (.bool true), Fct.val Flz 43 (.bool true), Fct.val Flz 44 (.pointer (some ⟨b4_4, 0, none⟩)), Fct.val Flz 45 (.int .i64 (a.1)), Fct.val Flz 46 (.bool (a.1 == (1 : Int))), Fct.val Flz 47 (.bool (a.1 == (1 : Int))), Fct.val Flz 48 (.bool true), Fct.val Flz 49 (.bool true), Fct.val Flz 50 (.bool true), Fct.val Flz 51 (.bool true), Fct.val Flz 52 (.bool false), Fct.val Flz 53 (.bool false), Fct.val Flz 54 (.agg (encU a.2.1).toArray), Fct.val Flz 55 (.pointer (some ⟨g1, 1, none⟩)), Fct.val Flz 56 (.agg (encU a.2.1).toArray), Fct.val Flz 57 (.bool true), Fct.val Flz 58 (.bool true), Fct.val Flz 59 (.bool true), Fct.val Flz 60 (.bool true), Fct.val Flz 61 (.bool true), Fct.val Flz 62 (.bool true), Fct.val Flz 63 (undef), Fct.val Flz 64 (undef), Fct.val Flz 65 (.bool true), Fct.val Flz 66 (.bool true), Fct.val Flz 67 (.bool true), Fct.val Flz 68 (aggC a), Fct.val Flz 69 (.bool (decide (a = zC))), Fct.val Flz 70 (aggC a), Fct.val Flz 71 (aggC zC), Fct.val Flz 72 (.bool (decide (a = zC))), Fct.val Flz 73 (.bool true), Fct.val Flz 74 (.bool true), Fct.val Flz 75 (.bool true)] (fun w' => Below u6.drew.heap.size u6.drew w') _ 76 0 chkCs7p (by kernel_rfl) (by kernel_rfl) (by kernel_rfl) (by kernel_rfl) (by decide) (Below.refl _ _) ?_ ?_
    · refine lt_s (lt_s (lt_s (lt_s (lt_s (lt_s (lt_s (lt_s (lt_s (lt_s (lt_s (lt_s (lt_s (lt_s (lt_s (lt_s (lt_s (lt_s (lt_s (lt_s (lt_s (lt_s (lt_s (lt_s (lt_s (lt_s (lt_s (lt_s (lt_s (lt_s (lt_s (lt_s (lt_s (lt_s (lt_s (lt_s (lt_s (lt_s (lt_s (lt_s (lt_s (lt_s (lt_s (lt_s (lt_s (lt_s (lt_s (lt_s (lt_s (lt_s (lt_s (lt_s (lt_s (lt_s (lt_s (lt_s (lt_s (lt_s (lt_s (lt_s (lt_s (lt_s (lt_s (lt_s (lt_s (lt_s (lt_s (lt_s (lt_s (lt_s (lt_s (lt_s (lt_s (lt_s (lt_s (lt_s (lt_0) ?_) ?_) ?_) ?_) ?_) ?_) ?_) ?_) ?_) ?_) ?_) ?_) ?_) ?_) ?_) ?_) ?_) ?_) ?_) ?_) ?_) ?_) ?_) ?_) ?_) ?_) ?_) ?_) ?_) ?_) ?_) ?_) ?_) ?_) ?_) ?_) ?_) ?_) ?_) ?_) ?_) ?_) ?_) ?_) ?_) ?_) ?_) ?_) ?_) ?_) ?_) ?_) ?_) ?_) ?_) ?_) ?_) ?_) ?_) ?_) ?_) ?_) ?_) ?_) ?_) ?_) ?_) ?_) ?_) ?_) ?_) ?_) ?_) ?_) ?_) ?_
      · intro f w1 hS hf
        generalize hA : putAll _ _ f = aA
        have r7 : aA.eval (.tmp 7) = .pointer (some ⟨b3_2, 0, none⟩) := by rw [← hA]; exact putAll_off f 7 slotsCs7p a0 (by kernel_rfl) z7
        exact flw_val rfl rfl (.agg (encU sx).toArray) (ex_loadR 24 (.tmp 7) rfl ⟨b3_2, 0, none⟩ r7 (fun _ => by kernel_rfl) (encU sx) (by rw [encU_len]; kernel_rfl) ((HX_b3_2.out.keepB hS).part (encU sx) 0 (encU_all' sx))) hS (Flz.refl _) (updF_self _ _ _)
      · intro f w1 hS hf
        generalize hA : putAll _ _ f = aA
        have h31 : f 0 = .agg (encU sx).toArray := hf 0 (by decide)
        have r31 : aA.eval (.tmp 31) = .agg (encU sx).toArray := by rw [← hA]; exact putAll_at f 31 0 slotsCs7p a0 sbCs7p (by kernel_rfl) zsz rfl h31
        exact flw_call rfl rfl 15 #[(.tmp 31)] _ rfl #[.agg (encU sx).toArray] (by simp only [List.map_toArray, List.map_cons, List.map_nil, r31]) (fun w => by kernel_rfl) (fun v _ => v = .agg (encU (chkS sx)).toArray) (chk_any sx w1 (HL.out.keep (HB.out.trans (hS.mono HB.out.size)) HSZ.out)) (fun v w' hr hb => ⟨hS.trans (hb.mono hS.size), Flz.of hb, (updF_self _ _ _).trans hr⟩)
      · intro f w1 hS hf
        generalize hA : putAll _ _ f = aA
        have r8 : aA.eval (.tmp 8) = .pointer (some ⟨b3_3, 0, none⟩) := by rw [← hA]; exact putAll_off f 8 slotsCs7p a0 (by kernel_rfl) z8
        exact flw_val rfl rfl (.agg (encU sx).toArray) (ex_loadR 35 (.tmp 8) rfl ⟨b3_3, 0, none⟩ r8 (fun _ => by kernel_rfl) (encU sx) (by rw [encU_len]; kernel_rfl) ((HX_b3_3.out.keepB hS).part (encU sx) 0 (encU_all' sx))) hS (Flz.refl _) (updF_self _ _ _)
      · intro f w1 hS hf
        generalize hA : putAll _ _ f = aA
        have h33 : f 2 = .agg (encU sx).toArray := hf 2 (by decide)
        have r33 : aA.eval (.tmp 33) = .agg (encU sx).toArray := by rw [← hA]; exact putAll_at f 33 2 slotsCs7p a0 sbCs7p (by kernel_rfl) zsz rfl h33
        exact flw_call rfl rfl 19 #[(.tmp 33)] _ rfl #[.agg (encU sx).toArray] (by simp only [List.map_toArray, List.map_cons, List.map_nil, r33]) (fun w => by kernel_rfl) (fun v _ => v = .agg (encU (chkS sx)).toArray) (rchk_any sx w1) (fun v w' hr hb => ⟨hS.trans (hb.mono hS.size), Flz.of hb, (updF_self _ _ _).trans hr⟩)
      · intro f w1 hS hf
        generalize hA : putAll _ _ f = aA
        have h32 : f 1 = .agg (encU (chkS sx)).toArray := hf 1 (by decide)
        have r32 : aA.eval (.tmp 32) = .agg (encU (chkS sx)).toArray := by rw [← hA]; exact putAll_at f 32 1 slotsCs7p a0 sbCs7p (by kernel_rfl) zsz rfl h32
        have h34 : f 3 = .agg (encU (chkS sx)).toArray := hf 3 (by decide)
        have r34 : aA.eval (.tmp 34) = .agg (encU (chkS sx)).toArray := by rw [← hA]; exact putAll_at f 34 3 slotsCs7p a0 sbCs7p (by kernel_rfl) zsz rfl h34
        exact flw_val rfl rfl (.bool true) (Eq.trans (eql_su 35 (.tmp 32) (.tmp 34) _ rfl (chkS sx) (chkS sx) r32 r34 (by kernel_rfl) (by kernel_rfl)) (by rw [(decide_eq_true (rfl : chkS sx = chkS sx))])) hS (Flz.refl _) (updF_self _ _ _)
      · intro f w1 hS hf
        generalize hA : putAll _ _ f = aA
        have h35 : f 4 = .bool true := hf 4 (by decide)
        have r35 : aA.eval (.tmp 35) = .bool true := by rw [← hA]; exact putAll_at f 35 4 slotsCs7p a0 sbCs7p (by kernel_rfl) zsz rfl h35
        exact flw_val rfl rfl (.bool true) (ex_move (.tmp 35) rfl r35) hS (Flz.refl _) (updF_self _ _ _)
      · intro f w1 hS hf
        generalize hA : putAll _ _ f = aA
        have g36 : f 5 = .bool true := hf 5 (by decide)
        have t36 : aA.tmps[36]? = some (.bool true) := by rw [← hA]; exact putAll_g f 36 5 slotsCs7p a0 sbCs7p (by kernel_rfl) zsz rfl g36
        have r3 : aA.eval (.tmp 3) = .pointer (some ⟨g1, 0, none⟩) := by rw [← hA]; exact putAll_off f 3 slotsCs7p a0 (by kernel_rfl) z3
        exact flw_val rfl ((wanted_of rfl 36 rfl t36).trans rfl) (aggC a) (ex_loadR 28 (.tmp 3) rfl ⟨g1, 0, none⟩ r3 (fun _ => by kernel_rfl) (encC a) (by rw [encC_len]; kernel_rfl) ((HX1.out.keepB hS).part (encC a) 0 (encC_all a))) hS (Flz.refl _) (updF_self _ _ _)
      · intro f w1 hS hf
        generalize hA : putAll _ _ f = aA
        have g36 : f 5 = .bool true := hf 5 (by decide)
        have t36 : aA.tmps[36]? = some (.bool true) := by rw [← hA]; exact putAll_g f 36 5 slotsCs7p a0 sbCs7p (by kernel_rfl) zsz rfl g36
        have r7 : aA.eval (.tmp 7) = .pointer (some ⟨b3_2, 0, none⟩) := by rw [← hA]; exact putAll_off f 7 slotsCs7p a0 (by kernel_rfl) z7
        exact flw_val rfl ((wanted_of rfl 36 rfl t36).trans rfl) (.agg (encU sx).toArray) (ex_loadR 24 (.tmp 7) rfl ⟨b3_2, 0, none⟩ r7 (fun _ => by kernel_rfl) (encU sx) (by rw [encU_len]; kernel_rfl) ((HX_b3_2.out.keepB hS).part (encU sx) 0 (encU_all' sx))) hS (Flz.refl _) (updF_self _ _ _)
      · intro f w1 hS hf
        generalize hA : putAll _ _ f = aA
        have g36 : f 5 = .bool true := hf 5 (by decide)
        have t36 : aA.tmps[36]? = some (.bool true) := by rw [← hA]; exact putAll_g f 36 5 slotsCs7p a0 sbCs7p (by kernel_rfl) zsz rfl g36
        have h37 : f 6 = aggC a := hf 6 (by decide)
        have r37 : aA.eval (.tmp 37) = aggC a := by rw [← hA]; exact putAll_at f 37 6 slotsCs7p a0 sbCs7p (by kernel_rfl) zsz rfl h37
        have h38 : f 7 = .agg (encU sx).toArray := hf 7 (by decide)
        have r38 : aA.eval (.tmp 38) = .agg (encU sx).toArray := by rw [← hA]; exact putAll_at f 38 7 slotsCs7p a0 sbCs7p (by kernel_rfl) zsz rfl h38
        exact flw_call rfl ((wanted_of rfl 36 rfl t36).trans rfl) 11 #[(.tmp 37), (.tmp 38)] _ rfl #[aggC a, .agg (encU sx).toArray] (by simp only [List.map_toArray, List.map_cons, List.map_nil, r37, r38]) (fun w => by kernel_rfl) (fun v _ => v = aggC (putC a sx)) (put_any a sx w1 (HL.out.keep (HB.out.trans (hS.mono HB.out.size)) HSZ.out)) (fun v w' hr hb => ⟨hS.trans (hb.mono hS.size), Flz.of hb, (updF_self _ _ _).trans hr⟩)
      · intro f w1 hS hf
        generalize hA : putAll _ _ f = aA
        have g36 : f 5 = .bool true := hf 5 (by decide)
        have t36 : aA.tmps[36]? = some (.bool true) := by rw [← hA]; exact putAll_g f 36 5 slotsCs7p a0 sbCs7p (by kernel_rfl) zsz rfl g36
        have h39 : f 8 = aggC (putC a sx) := hf 8 (by decide)
        have r39 : aA.eval (.tmp 39) = aggC (putC a sx) := by rw [← hA]; exact putAll_at f 39 8 slotsCs7p a0 sbCs7p (by kernel_rfl) zsz rfl h39
        exact flw_call rfl ((wanted_of rfl 36 rfl t36).trans rfl) 17 #[(.tmp 39)] _ rfl #[aggC (putC a sx)] (by simp only [List.map_toArray, List.map_cons, List.map_nil, r39]) (fun w => by kernel_rfl) (fun v _ => v = aggC (putC a sx)) (cellOf_any (putC a sx) w1) (fun v w' hr hb => ⟨hS.trans (hb.mono hS.size), Flz.of hb, (updF_self _ _ _).trans hr⟩)
      · intro f w1 hS hf
        generalize hA : putAll _ _ f = aA
        have g36 : f 5 = .bool true := hf 5 (by decide)
        have t36 : aA.tmps[36]? = some (.bool true) := by rw [← hA]; exact putAll_g f 36 5 slotsCs7p a0 sbCs7p (by kernel_rfl) zsz rfl g36
        have r9 : aA.eval (.tmp 9) = .pointer (some ⟨b4_4, 0, none⟩) := by rw [← hA]; exact putAll_off f 9 slotsCs7p a0 (by kernel_rfl) z9
        exact flw_val rfl ((wanted_of rfl 36 rfl t36).trans rfl) (aggC a) (ex_loadR 37 (.tmp 9) rfl ⟨b4_4, 0, none⟩ r9 (fun _ => by kernel_rfl) (encC a) (by rw [encC_len]; kernel_rfl) ((HX_b4_4.out.keepB hS).part (encC a) 0 (encC_all a))) hS (Flz.refl _) (updF_self _ _ _)
      · intro f w1 hS hf
        generalize hA : putAll _ _ f = aA
        have g36 : f 5 = .bool true := hf 5 (by decide)
        have t36 : aA.tmps[36]? = some (.bool true) := by rw [← hA]; exact putAll_g f 36 5 slotsCs7p a0 sbCs7p (by kernel_rfl) zsz rfl g36
        have r8 : aA.eval (.tmp 8) = .pointer (some ⟨b3_3, 0, none⟩) := by rw [← hA]; exact putAll_off f 8 slotsCs7p a0 (by kernel_rfl) z8
        exact flw_val rfl ((wanted_of rfl 36 rfl t36).trans rfl) (.agg (encU sx).toArray) (ex_loadR 35 (.tmp 8) rfl ⟨b3_3, 0, none⟩ r8 (fun _ => by kernel_rfl) (encU sx) (by rw [encU_len]; kernel_rfl) ((HX_b3_3.out.keepB hS).part (encU sx) 0 (encU_all' sx))) hS (Flz.refl _) (updF_self _ _ _)
      · intro f w1 hS hf
        generalize hA : putAll _ _ f = aA
        have g36 : f 5 = .bool true := hf 5 (by decide)
        have t36 : aA.tmps[36]? = some (.bool true) := by rw [← hA]; exact putAll_g f 36 5 slotsCs7p a0 sbCs7p (by kernel_rfl) zsz rfl g36
        have h41 : f 10 = aggC a := hf 10 (by decide)
        have r41 : aA.eval (.tmp 41) = aggC a := by rw [← hA]; exact putAll_at f 41 10 slotsCs7p a0 sbCs7p (by kernel_rfl) zsz rfl h41
        have h42 : f 11 = .agg (encU sx).toArray := hf 11 (by decide)
        have r42 : aA.eval (.tmp 42) = .agg (encU sx).toArray := by rw [← hA]; exact putAll_at f 42 11 slotsCs7p a0 sbCs7p (by kernel_rfl) zsz rfl h42
        exact flw_call rfl ((wanted_of rfl 36 rfl t36).trans rfl) 20 #[(.tmp 41), (.tmp 42), _] _ rfl #[aggC a, .agg (encU sx).toArray, .int .i64 1] (by simp only [List.map_toArray, List.map_cons, List.map_nil, r41, r42]; rfl) (fun w => by kernel_rfl) (fun v _ => v = aggC (withC a 1 sx (chkS sx))) (rput_any a sx 1 w1) (fun v w' hr hb => ⟨hS.trans (hb.mono hS.size), Flz.of hb, (updF_self _ _ _).trans hr⟩)
      · intro f w1 hS hf
        generalize hA : putAll _ _ f = aA
        have g36 : f 5 = .bool true := hf 5 (by decide)
        have t36 : aA.tmps[36]? = some (.bool true) := by rw [← hA]; exact putAll_g f 36 5 slotsCs7p a0 sbCs7p (by kernel_rfl) zsz rfl g36
        have h40 : f 9 = aggC (putC a sx) := hf 9 (by decide)
        have r40 : aA.eval (.tmp 40) = aggC (putC a sx) := by rw [← hA]; exact putAll_at f 40 9 slotsCs7p a0 sbCs7p (by kernel_rfl) zsz rfl h40
        have h43 : f 12 = aggC (withC a 1 sx (chkS sx)) := hf 12 (by decide)
        have r43 : aA.eval (.tmp 43) = aggC (withC a 1 sx (chkS sx)) := by rw [← hA]; exact putAll_at f 43 12 slotsCs7p a0 sbCs7p (by kernel_rfl) zsz rfl h43
        exact flw_val rfl ((wanted_of rfl 36 rfl t36).trans rfl) (.bool true) (Eq.trans (eqlR (.tmp 40) (.tmp 43) _ rfl (putC a sx) (withC a 1 sx (chkS sx)) r40 r43) (by rw [(cs_put a sx)])) hS (Flz.refl _) (updF_self _ _ _)
      · intro f w1 hS hf
        generalize hA : putAll _ _ f = aA
        have h36 : f 5 = .bool true := hf 5 (by decide)
        have r36 : aA.eval (.tmp 36) = .bool true := by rw [← hA]; exact putAll_at f 36 5 slotsCs7p a0 sbCs7p (by kernel_rfl) zsz rfl h36
        have h44 : f 13 = .bool true := hf 13 (by decide)
        have r44 : aA.eval (.tmp 44) = .bool true := by rw [← hA]; exact putAll_at f 44 13 slotsCs7p a0 sbCs7p (by kernel_rfl) zsz rfl h44
        exact flw_val rfl rfl (.bool true) (ex_pick (.tmp 36) (.tmp 44) _ rfl true r36 ((if_pos rfl).trans r44)) hS (Flz.refl _) (updF_self _ _ _)
      · intro f w1 hS hf
        generalize hA : putAll _ _ f = aA
        have h45 : f 14 = .bool true := hf 14 (by decide)
        have r45 : aA.eval (.tmp 45) = .bool true := by rw [← hA]; exact putAll_at f 45 14 slotsCs7p a0 sbCs7p (by kernel_rfl) zsz rfl h45
        exact flw_val rfl rfl (.bool true) (ex_move (.tmp 45) rfl r45) hS (Flz.refl _) (updF_self _ _ _)
      · intro f w1 hS hf
        generalize hA : putAll _ _ f = aA
        have g46 : f 15 = .bool true := hf 15 (by decide)
        have t46 : aA.tmps[46]? = some (.bool true) := by rw [← hA]; exact putAll_g f 46 15 slotsCs7p a0 sbCs7p (by kernel_rfl) zsz rfl g46
        have r3 : aA.eval (.tmp 3) = .pointer (some ⟨g1, 0, none⟩) := by rw [← hA]; exact putAll_off f 3 slotsCs7p a0 (by kernel_rfl) z3
        exact flw_val rfl ((wanted_of rfl 46 rfl t46).trans rfl) (aggC a) (ex_loadR 28 (.tmp 3) rfl ⟨g1, 0, none⟩ r3 (fun _ => by kernel_rfl) (encC a) (by rw [encC_len]; kernel_rfl) ((HX1.out.keepB hS).part (encC a) 0 (encC_all a))) hS (Flz.refl _) (updF_self _ _ _)
      · intro f w1 hS hf
        generalize hA : putAll _ _ f = aA
        have g46 : f 15 = .bool true := hf 15 (by decide)
        have t46 : aA.tmps[46]? = some (.bool true) := by rw [← hA]; exact putAll_g f 46 15 slotsCs7p a0 sbCs7p (by kernel_rfl) zsz rfl g46
        have r7 : aA.eval (.tmp 7) = .pointer (some ⟨b3_2, 0, none⟩) := by rw [← hA]; exact putAll_off f 7 slotsCs7p a0 (by kernel_rfl) z7
        exact flw_val rfl ((wanted_of rfl 46 rfl t46).trans rfl) (.agg (encU sx).toArray) (ex_loadR 24 (.tmp 7) rfl ⟨b3_2, 0, none⟩ r7 (fun _ => by kernel_rfl) (encU sx) (by rw [encU_len]; kernel_rfl) ((HX_b3_2.out.keepB hS).part (encU sx) 0 (encU_all' sx))) hS (Flz.refl _) (updF_self _ _ _)
      · intro f w1 hS hf
        generalize hA : putAll _ _ f = aA
        have g46 : f 15 = .bool true := hf 15 (by decide)
        have t46 : aA.tmps[46]? = some (.bool true) := by rw [← hA]; exact putAll_g f 46 15 slotsCs7p a0 sbCs7p (by kernel_rfl) zsz rfl g46
        have h47 : f 16 = aggC a := hf 16 (by decide)
        have r47 : aA.eval (.tmp 47) = aggC a := by rw [← hA]; exact putAll_at f 47 16 slotsCs7p a0 sbCs7p (by kernel_rfl) zsz rfl h47
        have h48 : f 17 = .agg (encU sx).toArray := hf 17 (by decide)
        have r48 : aA.eval (.tmp 48) = .agg (encU sx).toArray := by rw [← hA]; exact putAll_at f 48 17 slotsCs7p a0 sbCs7p (by kernel_rfl) zsz rfl h48
        exact flw_call rfl ((wanted_of rfl 46 rfl t46).trans rfl) 14 #[(.tmp 47), (.tmp 48)] _ rfl #[aggC a, .agg (encU sx).toArray] (by simp only [List.map_toArray, List.map_cons, List.map_nil, r47, r48]) (fun w => by kernel_rfl) (fun v _ => v = aggC (takeC a sx)) (take_any a sx w1 (HL.out.keep (HB.out.trans (hS.mono HB.out.size)) HSZ.out)) (fun v w' hr hb => ⟨hS.trans (hb.mono hS.size), Flz.of hb, (updF_self _ _ _).trans hr⟩)
      · intro f w1 hS hf
        generalize hA : putAll _ _ f = aA
        have g46 : f 15 = .bool true := hf 15 (by decide)
        have t46 : aA.tmps[46]? = some (.bool true) := by rw [← hA]; exact putAll_g f 46 15 slotsCs7p a0 sbCs7p (by kernel_rfl) zsz rfl g46
        have h49 : f 18 = aggC (takeC a sx) := hf 18 (by decide)
        have r49 : aA.eval (.tmp 49) = aggC (takeC a sx) := by rw [← hA]; exact putAll_at f 49 18 slotsCs7p a0 sbCs7p (by kernel_rfl) zsz rfl h49
        exact flw_call rfl ((wanted_of rfl 46 rfl t46).trans rfl) 17 #[(.tmp 49)] _ rfl #[aggC (takeC a sx)] (by simp only [List.map_toArray, List.map_cons, List.map_nil, r49]) (fun w => by kernel_rfl) (fun v _ => v = aggC (takeC a sx)) (cellOf_any (takeC a sx) w1) (fun v w' hr hb => ⟨hS.trans (hb.mono hS.size), Flz.of hb, (updF_self _ _ _).trans hr⟩)
      · intro f w1 hS hf
        generalize hA : putAll _ _ f = aA
        have g46 : f 15 = .bool true := hf 15 (by decide)
        have t46 : aA.tmps[46]? = some (.bool true) := by rw [← hA]; exact putAll_g f 46 15 slotsCs7p a0 sbCs7p (by kernel_rfl) zsz rfl g46
        have r9 : aA.eval (.tmp 9) = .pointer (some ⟨b4_4, 0, none⟩) := by rw [← hA]; exact putAll_off f 9 slotsCs7p a0 (by kernel_rfl) z9
        exact flw_val rfl ((wanted_of rfl 46 rfl t46).trans rfl) (aggC a) (ex_loadR 37 (.tmp 9) rfl ⟨b4_4, 0, none⟩ r9 (fun _ => by kernel_rfl) (encC a) (by rw [encC_len]; kernel_rfl) ((HX_b4_4.out.keepB hS).part (encC a) 0 (encC_all a))) hS (Flz.refl _) (updF_self _ _ _)
      · intro f w1 hS hf
        generalize hA : putAll _ _ f = aA
        have g46 : f 15 = .bool true := hf 15 (by decide)
        have t46 : aA.tmps[46]? = some (.bool true) := by rw [← hA]; exact putAll_g f 46 15 slotsCs7p a0 sbCs7p (by kernel_rfl) zsz rfl g46
        have r8 : aA.eval (.tmp 8) = .pointer (some ⟨b3_3, 0, none⟩) := by rw [← hA]; exact putAll_off f 8 slotsCs7p a0 (by kernel_rfl) z8
        exact flw_val rfl ((wanted_of rfl 46 rfl t46).trans rfl) (.agg (encU sx).toArray) (ex_loadR 35 (.tmp 8) rfl ⟨b3_3, 0, none⟩ r8 (fun _ => by kernel_rfl) (encU sx) (by rw [encU_len]; kernel_rfl) ((HX_b3_3.out.keepB hS).part (encU sx) 0 (encU_all' sx))) hS (Flz.refl _) (updF_self _ _ _)
      · intro f w1 hS hf
        generalize hA : putAll _ _ f = aA
        have g46 : f 15 = .bool true := hf 15 (by decide)
        have t46 : aA.tmps[46]? = some (.bool true) := by rw [← hA]; exact putAll_g f 46 15 slotsCs7p a0 sbCs7p (by kernel_rfl) zsz rfl g46
        have h51 : f 20 = aggC a := hf 20 (by decide)
        have r51 : aA.eval (.tmp 51) = aggC a := by rw [← hA]; exact putAll_at f 51 20 slotsCs7p a0 sbCs7p (by kernel_rfl) zsz rfl h51
        have h52 : f 21 = .agg (encU sx).toArray := hf 21 (by decide)
        have r52 : aA.eval (.tmp 52) = .agg (encU sx).toArray := by rw [← hA]; exact putAll_at f 52 21 slotsCs7p a0 sbCs7p (by kernel_rfl) zsz rfl h52
        exact flw_call rfl ((wanted_of rfl 46 rfl t46).trans rfl) 20 #[(.tmp 51), (.tmp 52), _] _ rfl #[aggC a, .agg (encU sx).toArray, .int .i64 ((-1))] (by simp only [List.map_toArray, List.map_cons, List.map_nil, r51, r52]; rfl) (fun w => by kernel_rfl) (fun v _ => v = aggC (withC a (-1) sx (chkS sx))) (rput_any a sx (-1) w1) (fun v w' hr hb => ⟨hS.trans (hb.mono hS.size), Flz.of hb, (updF_self _ _ _).trans hr⟩)
      · intro f w1 hS hf
        generalize hA : putAll _ _ f = aA
        have g46 : f 15 = .bool true := hf 15 (by decide)
        have t46 : aA.tmps[46]? = some (.bool true) := by rw [← hA]; exact putAll_g f 46 15 slotsCs7p a0 sbCs7p (by kernel_rfl) zsz rfl g46
        have h50 : f 19 = aggC (takeC a sx) := hf 19 (by decide)
        have r50 : aA.eval (.tmp 50) = aggC (takeC a sx) := by rw [← hA]; exact putAll_at f 50 19 slotsCs7p a0 sbCs7p (by kernel_rfl) zsz rfl h50
        have h53 : f 22 = aggC (withC a (-1) sx (chkS sx)) := hf 22 (by decide)
        have r53 : aA.eval (.tmp 53) = aggC (withC a (-1) sx (chkS sx)) := by rw [← hA]; exact putAll_at f 53 22 slotsCs7p a0 sbCs7p (by kernel_rfl) zsz rfl h53
        exact flw_val rfl ((wanted_of rfl 46 rfl t46).trans rfl) (.bool true) (Eq.trans (eqlR (.tmp 50) (.tmp 53) _ rfl (takeC a sx) (withC a (-1) sx (chkS sx)) r50 r53) (by rw [(cs_take a sx)])) hS (Flz.refl _) (updF_self _ _ _)
      · intro f w1 hS hf
        generalize hA : putAll _ _ f = aA
        have h46 : f 15 = .bool true := hf 15 (by decide)
        have r46 : aA.eval (.tmp 46) = .bool true := by rw [← hA]; exact putAll_at f 46 15 slotsCs7p a0 sbCs7p (by kernel_rfl) zsz rfl h46
        have h54 : f 23 = .bool true := hf 23 (by decide)
        have r54 : aA.eval (.tmp 54) = .bool true := by rw [← hA]; exact putAll_at f 54 23 slotsCs7p a0 sbCs7p (by kernel_rfl) zsz rfl h54
        exact flw_val rfl rfl (.bool true) (ex_pick (.tmp 46) (.tmp 54) _ rfl true r46 ((if_pos rfl).trans r54)) hS (Flz.refl _) (updF_self _ _ _)
      · intro f w1 hS hf
        generalize hA : putAll _ _ f = aA
        have h55 : f 24 = .bool true := hf 24 (by decide)
        have r55 : aA.eval (.tmp 55) = .bool true := by rw [← hA]; exact putAll_at f 55 24 slotsCs7p a0 sbCs7p (by kernel_rfl) zsz rfl h55
        exact flw_val rfl rfl (.bool true) (ex_move (.tmp 55) rfl r55) hS (Flz.refl _) (updF_self _ _ _)
      · intro f w1 hS hf
        generalize hA : putAll _ _ f = aA
        have g56 : f 25 = .bool true := hf 25 (by decide)
        have t56 : aA.tmps[56]? = some (.bool true) := by rw [← hA]; exact putAll_g f 56 25 slotsCs7p a0 sbCs7p (by kernel_rfl) zsz rfl g56
        have r3 : aA.eval (.tmp 3) = .pointer (some ⟨g1, 0, none⟩) := by rw [← hA]; exact putAll_off f 3 slotsCs7p a0 (by kernel_rfl) z3
        exact flw_val rfl ((wanted_of rfl 56 rfl t56).trans rfl) (aggC a) (ex_loadR 28 (.tmp 3) rfl ⟨g1, 0, none⟩ r3 (fun _ => by kernel_rfl) (encC a) (by rw [encC_len]; kernel_rfl) ((HX1.out.keepB hS).part (encC a) 0 (encC_all a))) hS (Flz.refl _) (updF_self _ _ _)
      · intro f w1 hS hf
        generalize hA : putAll _ _ f = aA
        have g56 : f 25 = .bool true := hf 25 (by decide)
        have t56 : aA.tmps[56]? = some (.bool true) := by rw [← hA]; exact putAll_g f 56 25 slotsCs7p a0 sbCs7p (by kernel_rfl) zsz rfl g56
        have r4 : aA.eval (.tmp 4) = .pointer (some ⟨g2, 0, none⟩) := by rw [← hA]; exact putAll_off f 4 slotsCs7p a0 (by kernel_rfl) z4
        exact flw_val rfl ((wanted_of rfl 56 rfl t56).trans rfl) (aggC b) (ex_loadR 28 (.tmp 4) rfl ⟨g2, 0, none⟩ r4 (fun _ => by kernel_rfl) (encC b) (by rw [encC_len]; kernel_rfl) ((HX2.out.keepB hS).part (encC b) 0 (encC_all b))) hS (Flz.refl _) (updF_self _ _ _)
      · intro f w1 hS hf
        generalize hA : putAll _ _ f = aA
        have g56 : f 25 = .bool true := hf 25 (by decide)
        have t56 : aA.tmps[56]? = some (.bool true) := by rw [← hA]; exact putAll_g f 56 25 slotsCs7p a0 sbCs7p (by kernel_rfl) zsz rfl g56
        have h57 : f 26 = aggC a := hf 26 (by decide)
        have r57 : aA.eval (.tmp 57) = aggC a := by rw [← hA]; exact putAll_at f 57 26 slotsCs7p a0 sbCs7p (by kernel_rfl) zsz rfl h57
        have h58 : f 27 = aggC b := hf 27 (by decide)
        have r58 : aA.eval (.tmp 58) = aggC b := by rw [← hA]; exact putAll_at f 58 27 slotsCs7p a0 sbCs7p (by kernel_rfl) zsz rfl h58
        exact flw_call rfl ((wanted_of rfl 56 rfl t56).trans rfl) 13 #[(.tmp 57), (.tmp 58)] _ rfl #[aggC a, aggC b] (by simp only [List.map_toArray, List.map_cons, List.map_nil, r57, r58]) (fun w => by kernel_rfl) (fun v _ => v = aggC (minusC a b)) (minus_any a b w1) (fun v w' hr hb => ⟨hS.trans (hb.mono hS.size), Flz.of hb, (updF_self _ _ _).trans hr⟩)
      · intro f w1 hS hf
        generalize hA : putAll _ _ f = aA
        have g56 : f 25 = .bool true := hf 25 (by decide)
        have t56 : aA.tmps[56]? = some (.bool true) := by rw [← hA]; exact putAll_g f 56 25 slotsCs7p a0 sbCs7p (by kernel_rfl) zsz rfl g56
        have h59 : f 28 = aggC (minusC a b) := hf 28 (by decide)
        have r59 : aA.eval (.tmp 59) = aggC (minusC a b) := by rw [← hA]; exact putAll_at f 59 28 slotsCs7p a0 sbCs7p (by kernel_rfl) zsz rfl h59
        exact flw_call rfl ((wanted_of rfl 56 rfl t56).trans rfl) 17 #[(.tmp 59)] _ rfl #[aggC (minusC a b)] (by simp only [List.map_toArray, List.map_cons, List.map_nil, r59]) (fun w => by kernel_rfl) (fun v _ => v = aggC (minusC a b)) (cellOf_any (minusC a b) w1) (fun v w' hr hb => ⟨hS.trans (hb.mono hS.size), Flz.of hb, (updF_self _ _ _).trans hr⟩)
      · intro f w1 hS hf
        generalize hA : putAll _ _ f = aA
        have g56 : f 25 = .bool true := hf 25 (by decide)
        have t56 : aA.tmps[56]? = some (.bool true) := by rw [← hA]; exact putAll_g f 56 25 slotsCs7p a0 sbCs7p (by kernel_rfl) zsz rfl g56
        have r9 : aA.eval (.tmp 9) = .pointer (some ⟨b4_4, 0, none⟩) := by rw [← hA]; exact putAll_off f 9 slotsCs7p a0 (by kernel_rfl) z9
        exact flw_val rfl ((wanted_of rfl 56 rfl t56).trans rfl) (aggC a) (ex_loadR 37 (.tmp 9) rfl ⟨b4_4, 0, none⟩ r9 (fun _ => by kernel_rfl) (encC a) (by rw [encC_len]; kernel_rfl) ((HX_b4_4.out.keepB hS).part (encC a) 0 (encC_all a))) hS (Flz.refl _) (updF_self _ _ _)
      · intro f w1 hS hf
        generalize hA : putAll _ _ f = aA
        have g56 : f 25 = .bool true := hf 25 (by decide)
        have t56 : aA.tmps[56]? = some (.bool true) := by rw [← hA]; exact putAll_g f 56 25 slotsCs7p a0 sbCs7p (by kernel_rfl) zsz rfl g56
        have r10 : aA.eval (.tmp 10) = .pointer (some ⟨b4_5, 0, none⟩) := by rw [← hA]; exact putAll_off f 10 slotsCs7p a0 (by kernel_rfl) z10
        exact flw_val rfl ((wanted_of rfl 56 rfl t56).trans rfl) (aggC b) (ex_loadR 37 (.tmp 10) rfl ⟨b4_5, 0, none⟩ r10 (fun _ => by kernel_rfl) (encC b) (by rw [encC_len]; kernel_rfl) ((HX_b4_5.out.keepB hS).part (encC b) 0 (encC_all b))) hS (Flz.refl _) (updF_self _ _ _)
      · intro f w1 hS hf
        generalize hA : putAll _ _ f = aA
        have g56 : f 25 = .bool true := hf 25 (by decide)
        have t56 : aA.tmps[56]? = some (.bool true) := by rw [← hA]; exact putAll_g f 56 25 slotsCs7p a0 sbCs7p (by kernel_rfl) zsz rfl g56
        have h61 : f 30 = aggC a := hf 30 (by decide)
        have r61 : aA.eval (.tmp 61) = aggC a := by rw [← hA]; exact putAll_at f 61 30 slotsCs7p a0 sbCs7p (by kernel_rfl) zsz rfl h61
        have h62 : f 31 = aggC b := hf 31 (by decide)
        have r62 : aA.eval (.tmp 62) = aggC b := by rw [← hA]; exact putAll_at f 62 31 slotsCs7p a0 sbCs7p (by kernel_rfl) zsz rfl h62
        exact flw_call rfl ((wanted_of rfl 56 rfl t56).trans rfl) 21 #[(.tmp 61), (.tmp 62)] _ rfl #[aggC a, aggC b] (by simp only [List.map_toArray, List.map_cons, List.map_nil, r61, r62]) (fun w => by kernel_rfl) (fun v _ => v = aggC (minusC a b)) (rminus_any a b w1) (fun v w' hr hb => ⟨hS.trans (hb.mono hS.size), Flz.of hb, (updF_self _ _ _).trans hr⟩)
      · intro f w1 hS hf
        generalize hA : putAll _ _ f = aA
        have g56 : f 25 = .bool true := hf 25 (by decide)
        have t56 : aA.tmps[56]? = some (.bool true) := by rw [← hA]; exact putAll_g f 56 25 slotsCs7p a0 sbCs7p (by kernel_rfl) zsz rfl g56
        have h60 : f 29 = aggC (minusC a b) := hf 29 (by decide)
        have r60 : aA.eval (.tmp 60) = aggC (minusC a b) := by rw [← hA]; exact putAll_at f 60 29 slotsCs7p a0 sbCs7p (by kernel_rfl) zsz rfl h60
        have h63 : f 32 = aggC (minusC a b) := hf 32 (by decide)
        have r63 : aA.eval (.tmp 63) = aggC (minusC a b) := by rw [← hA]; exact putAll_at f 63 32 slotsCs7p a0 sbCs7p (by kernel_rfl) zsz rfl h63
        exact flw_val rfl ((wanted_of rfl 56 rfl t56).trans rfl) (.bool true) (Eq.trans (eqlR (.tmp 60) (.tmp 63) _ rfl (minusC a b) (minusC a b) r60 r63) (by rw [(decide_eq_true (rfl : minusC a b = minusC a b))])) hS (Flz.refl _) (updF_self _ _ _)
      · intro f w1 hS hf
        generalize hA : putAll _ _ f = aA
        have h56 : f 25 = .bool true := hf 25 (by decide)
        have r56 : aA.eval (.tmp 56) = .bool true := by rw [← hA]; exact putAll_at f 56 25 slotsCs7p a0 sbCs7p (by kernel_rfl) zsz rfl h56
        have h64 : f 33 = .bool true := hf 33 (by decide)
        have r64 : aA.eval (.tmp 64) = .bool true := by rw [← hA]; exact putAll_at f 64 33 slotsCs7p a0 sbCs7p (by kernel_rfl) zsz rfl h64
        exact flw_val rfl rfl (.bool true) (ex_pick (.tmp 56) (.tmp 64) _ rfl true r56 ((if_pos rfl).trans r64)) hS (Flz.refl _) (updF_self _ _ _)
      · intro f w1 hS hf
        generalize hA : putAll _ _ f = aA
        have h65 : f 34 = .bool true := hf 34 (by decide)
        have r65 : aA.eval (.tmp 65) = .bool true := by rw [← hA]; exact putAll_at f 65 34 slotsCs7p a0 sbCs7p (by kernel_rfl) zsz rfl h65
        exact flw_val rfl rfl (.bool true) (ex_move (.tmp 65) rfl r65) hS (Flz.refl _) (updF_self _ _ _)
      · intro f w1 hS hf
        generalize hA : putAll _ _ f = aA
        have g66 : f 35 = .bool true := hf 35 (by decide)
        have t66 : aA.tmps[66]? = some (.bool true) := by rw [← hA]; exact putAll_g f 66 35 slotsCs7p a0 sbCs7p (by kernel_rfl) zsz rfl g66
        have r13 : aA.eval (.tmp 13) = .bool true := by rw [← hA]; exact putAll_off f 13 slotsCs7p a0 (by kernel_rfl) z13
        exact flw_val rfl ((wanted_of rfl 66 rfl t66).trans rfl) (.bool true) (ex_move (.tmp 13) rfl r13) hS (Flz.refl _) (updF_self _ _ _)
      · intro f w1 hS hf
        generalize hA : putAll _ _ f = aA
        have g66 : f 35 = .bool true := hf 35 (by decide)
        have t66 : aA.tmps[66]? = some (.bool true) := by rw [← hA]; exact putAll_g f 66 35 slotsCs7p a0 sbCs7p (by kernel_rfl) zsz rfl g66
        have r14 : aA.eval (.tmp 14) = .bool true := by rw [← hA]; exact putAll_off f 14 slotsCs7p a0 (by kernel_rfl) z14
        exact flw_val rfl ((wanted_of rfl 66 rfl t66).trans rfl) (.bool true) (ex_move (.tmp 14) rfl r14) hS (Flz.refl _) (updF_self _ _ _)
      · intro f w1 hS hf
        generalize hA : putAll _ _ f = aA
        have g66 : f 35 = .bool true := hf 35 (by decide)
        have t66 : aA.tmps[66]? = some (.bool true) := by rw [← hA]; exact putAll_g f 66 35 slotsCs7p a0 sbCs7p (by kernel_rfl) zsz rfl g66
        have h67 : f 36 = .bool true := hf 36 (by decide)
        have r67 : aA.eval (.tmp 67) = .bool true := by rw [← hA]; exact putAll_at f 67 36 slotsCs7p a0 sbCs7p (by kernel_rfl) zsz rfl h67
        have h68 : f 37 = .bool true := hf 37 (by decide)
        have r68 : aA.eval (.tmp 68) = .bool true := by rw [← hA]; exact putAll_at f 68 37 slotsCs7p a0 sbCs7p (by kernel_rfl) zsz rfl h68
        exact flw_val rfl ((wanted_of rfl 66 rfl t66).trans rfl) (.bool true) (ex_eqB _ _ (.tmp 67) (.tmp 68) rfl (by kernel_rfl) true true r67 r68) hS (Flz.refl _) (updF_self _ _ _)
      · intro f w1 hS hf
        generalize hA : putAll _ _ f = aA
        have h66 : f 35 = .bool true := hf 35 (by decide)
        have r66 : aA.eval (.tmp 66) = .bool true := by rw [← hA]; exact putAll_at f 66 35 slotsCs7p a0 sbCs7p (by kernel_rfl) zsz rfl h66
        have h69 : f 38 = .bool true := hf 38 (by decide)
        have r69 : aA.eval (.tmp 69) = .bool true := by rw [← hA]; exact putAll_at f 69 38 slotsCs7p a0 sbCs7p (by kernel_rfl) zsz rfl h69
        exact flw_val rfl rfl (.bool true) (ex_pick (.tmp 66) (.tmp 69) _ rfl true r66 ((if_pos rfl).trans r69)) hS (Flz.refl _) (updF_self _ _ _)
      · intro f w1 hS hf
        generalize hA : putAll _ _ f = aA
        have h70 : f 39 = .bool true := hf 39 (by decide)
        have r70 : aA.eval (.tmp 70) = .bool true := by rw [← hA]; exact putAll_at f 70 39 slotsCs7p a0 sbCs7p (by kernel_rfl) zsz rfl h70
        exact flw_val rfl rfl (.bool true) (ex_move (.tmp 70) rfl r70) hS (Flz.refl _) (updF_self _ _ _)
      · intro f w1 hS hf
        generalize hA : putAll _ _ f = aA
        have g71 : f 40 = .bool true := hf 40 (by decide)
        have t71 : aA.tmps[71]? = some (.bool true) := by rw [← hA]; exact putAll_g f 71 40 slotsCs7p a0 sbCs7p (by kernel_rfl) zsz rfl g71
        have r12 : aA.eval (.tmp 12) = .bool (a.1 == (1 : Int)) := by rw [← hA]; exact putAll_off f 12 slotsCs7p a0 (by kernel_rfl) z12
        exact flw_val rfl ((wanted_of rfl 71 rfl t71).trans rfl) (.bool (a.1 == (1 : Int))) (ex_move (.tmp 12) rfl r12) hS (Flz.refl _) (updF_self _ _ _)
      · intro f w1 hS hf
        generalize hA : putAll _ _ f = aA
        have g71 : f 40 = .bool true := hf 40 (by decide)
        have t71 : aA.tmps[71]? = some (.bool true) := by rw [← hA]; exact putAll_g f 71 40 slotsCs7p a0 sbCs7p (by kernel_rfl) zsz rfl g71
        have r14 : aA.eval (.tmp 14) = .bool true := by rw [← hA]; exact putAll_off f 14 slotsCs7p a0 (by kernel_rfl) z14
        exact flw_val rfl ((wanted_of rfl 71 rfl t71).trans rfl) (.bool true) (ex_move (.tmp 14) rfl r14) hS (Flz.refl _) (updF_self _ _ _)
      · intro f w1 hS hf
        generalize hA : putAll _ _ f = aA
        have g71 : f 40 = .bool true := hf 40 (by decide)
        have t71 : aA.tmps[71]? = some (.bool true) := by rw [← hA]; exact putAll_g f 71 40 slotsCs7p a0 sbCs7p (by kernel_rfl) zsz rfl g71
        have h73 : f 42 = .bool true := hf 42 (by decide)
        have r73 : aA.eval (.tmp 73) = .bool true := by rw [← hA]; exact putAll_at f 73 42 slotsCs7p a0 sbCs7p (by kernel_rfl) zsz rfl h73
        exact flw_val rfl ((wanted_of rfl 71 rfl t71).trans rfl) (.bool true) (ex_move (.tmp 73) rfl r73) hS (Flz.refl _) (updF_self _ _ _)
      · intro f w1 hS hf
        generalize hA : putAll _ _ f = aA
        have g74 : f 43 = .bool true := hf 43 (by decide)
        have t74 : aA.tmps[74]? = some (.bool true) := by rw [← hA]; exact putAll_g f 74 43 slotsCs7p a0 sbCs7p (by kernel_rfl) zsz rfl g74
        have r9 : aA.eval (.tmp 9) = .pointer (some ⟨b4_4, 0, none⟩) := by rw [← hA]; exact putAll_off f 9 slotsCs7p a0 (by kernel_rfl) z9
        exact flw_val rfl ((wanted_of rfl 74 rfl t74).trans rfl) (.pointer (some ⟨b4_4, 0, none⟩)) (fld0R (.tmp 9) rfl b4_4 r9) hS (Flz.refl _) (updF_self _ _ _)
      · intro f w1 hS hf
        generalize hA : putAll _ _ f = aA
        have g74 : f 43 = .bool true := hf 43 (by decide)
        have t74 : aA.tmps[74]? = some (.bool true) := by rw [← hA]; exact putAll_g f 74 43 slotsCs7p a0 sbCs7p (by kernel_rfl) zsz rfl g74
        have h75 : f 44 = .pointer (some ⟨b4_4, 0, none⟩) := hf 44 (by decide)
        have r75 : aA.eval (.tmp 75) = .pointer (some ⟨b4_4, 0, none⟩) := by rw [← hA]; exact putAll_at f 75 44 slotsCs7p a0 sbCs7p (by kernel_rfl) zsz rfl h75
        exact flw_val rfl ((wanted_of rfl 74 rfl t74).trans rfl) (.int .i64 (a.1)) (ex_load1 2 (.tmp 75) rfl ⟨b4_4, 0, none⟩ r75 (fun _ => by kernel_rfl) ((HX_b4_4.out.keepB hS).cellv (encC_0 a))) hS (Flz.refl _) (updF_self _ _ _)
      · intro f w1 hS hf
        generalize hA : putAll _ _ f = aA
        have g74 : f 43 = .bool true := hf 43 (by decide)
        have t74 : aA.tmps[74]? = some (.bool true) := by rw [← hA]; exact putAll_g f 74 43 slotsCs7p a0 sbCs7p (by kernel_rfl) zsz rfl g74
        have h76 : f 45 = .int .i64 (a.1) := hf 45 (by decide)
        have r76 : aA.eval (.tmp 76) = .int .i64 (a.1) := by rw [← hA]; exact putAll_at f 76 45 slotsCs7p a0 sbCs7p (by kernel_rfl) zsz rfl h76
        exact flw_val rfl ((wanted_of rfl 74 rfl t74).trans rfl) (.bool (a.1 == (1 : Int))) (ex_int .eql _ _ (.tmp 76) _ rfl .i64 a.1 1 r76 rfl (.bool (a.1 == (1 : Int))) (fun _ => rfl)) hS (Flz.refl _) (updF_self _ _ _)
      · intro f w1 hS hf
        generalize hA : putAll _ _ f = aA
        have g71 : f 40 = .bool true := hf 40 (by decide)
        have t71 : aA.tmps[71]? = some (.bool true) := by rw [← hA]; exact putAll_g f 71 40 slotsCs7p a0 sbCs7p (by kernel_rfl) zsz rfl g71
        have h74 : f 43 = .bool true := hf 43 (by decide)
        have r74 : aA.eval (.tmp 74) = .bool true := by rw [← hA]; exact putAll_at f 74 43 slotsCs7p a0 sbCs7p (by kernel_rfl) zsz rfl h74
        have h77 : f 46 = .bool (a.1 == (1 : Int)) := hf 46 (by decide)
        have r77 : aA.eval (.tmp 77) = .bool (a.1 == (1 : Int)) := by rw [← hA]; exact putAll_at f 77 46 slotsCs7p a0 sbCs7p (by kernel_rfl) zsz rfl h77
        exact flw_val rfl ((wanted_of rfl 71 rfl t71).trans rfl) (.bool (a.1 == (1 : Int))) (ex_pick (.tmp 74) (.tmp 77) _ rfl true r74 ((if_pos rfl).trans r77)) hS (Flz.refl _) (updF_self _ _ _)
      · intro f w1 hS hf
        generalize hA : putAll _ _ f = aA
        have g71 : f 40 = .bool true := hf 40 (by decide)
        have t71 : aA.tmps[71]? = some (.bool true) := by rw [← hA]; exact putAll_g f 71 40 slotsCs7p a0 sbCs7p (by kernel_rfl) zsz rfl g71
        have h72 : f 41 = .bool (a.1 == (1 : Int)) := hf 41 (by decide)
        have r72 : aA.eval (.tmp 72) = .bool (a.1 == (1 : Int)) := by rw [← hA]; exact putAll_at f 72 41 slotsCs7p a0 sbCs7p (by kernel_rfl) zsz rfl h72
        have h78 : f 47 = .bool (a.1 == (1 : Int)) := hf 47 (by decide)
        have r78 : aA.eval (.tmp 78) = .bool (a.1 == (1 : Int)) := by rw [← hA]; exact putAll_at f 78 47 slotsCs7p a0 sbCs7p (by kernel_rfl) zsz rfl h78
        exact flw_val rfl ((wanted_of rfl 71 rfl t71).trans rfl) (.bool true) (Eq.trans (ex_eqB _ _ (.tmp 72) (.tmp 78) rfl (by kernel_rfl) (a.1 == (1 : Int)) (a.1 == (1 : Int)) r72 r78) (by rw [(beq_self_eq_true (a.1 == (1 : Int)))])) hS (Flz.refl _) (updF_self _ _ _)
      · intro f w1 hS hf
        generalize hA : putAll _ _ f = aA
        have h71 : f 40 = .bool true := hf 40 (by decide)
        have r71 : aA.eval (.tmp 71) = .bool true := by rw [← hA]; exact putAll_at f 71 40 slotsCs7p a0 sbCs7p (by kernel_rfl) zsz rfl h71
        have h79 : f 48 = .bool true := hf 48 (by decide)
        have r79 : aA.eval (.tmp 79) = .bool true := by rw [← hA]; exact putAll_at f 79 48 slotsCs7p a0 sbCs7p (by kernel_rfl) zsz rfl h79
        exact flw_val rfl rfl (.bool true) (ex_pick (.tmp 71) (.tmp 79) _ rfl true r71 ((if_pos rfl).trans r79)) hS (Flz.refl _) (updF_self _ _ _)
      · intro f w1 hS hf
        generalize hA : putAll _ _ f = aA
        have h80 : f 49 = .bool true := hf 49 (by decide)
        have r80 : aA.eval (.tmp 80) = .bool true := by rw [← hA]; exact putAll_at f 80 49 slotsCs7p a0 sbCs7p (by kernel_rfl) zsz rfl h80
        exact flw_val rfl rfl (.bool true) (ex_move (.tmp 80) rfl r80) hS (Flz.refl _) (updF_self _ _ _)
      · intro f w1 hS hf
        generalize hA : putAll _ _ f = aA
        have g81 : f 50 = .bool true := hf 50 (by decide)
        have t81 : aA.tmps[81]? = some (.bool true) := by rw [← hA]; exact putAll_g f 81 50 slotsCs7p a0 sbCs7p (by kernel_rfl) zsz rfl g81
        have r13 : aA.eval (.tmp 13) = .bool true := by rw [← hA]; exact putAll_off f 13 slotsCs7p a0 (by kernel_rfl) z13
        exact flw_val rfl ((wanted_of rfl 81 rfl t81).trans rfl) (.bool true) (ex_move (.tmp 13) rfl r13) hS (Flz.refl _) (updF_self _ _ _)
      · intro f w1 hS hf
        generalize hA : putAll _ _ f = aA
        have g81 : f 50 = .bool true := hf 50 (by decide)
        have t81 : aA.tmps[81]? = some (.bool true) := by rw [← hA]; exact putAll_g f 81 50 slotsCs7p a0 sbCs7p (by kernel_rfl) zsz rfl g81
        have h82 : f 51 = .bool true := hf 51 (by decide)
        have r82 : aA.eval (.tmp 82) = .bool true := by rw [← hA]; exact putAll_at f 82 51 slotsCs7p a0 sbCs7p (by kernel_rfl) zsz rfl h82
        exact flw_val rfl ((wanted_of rfl 81 rfl t81).trans rfl) (.bool false) (ex_not _ (.tmp 82) rfl r82) hS (Flz.refl _) (updF_self _ _ _)
      · intro f w1 hS hf
        generalize hA : putAll _ _ f = aA
        have g81 : f 50 = .bool true := hf 50 (by decide)
        have t81 : aA.tmps[81]? = some (.bool true) := by rw [← hA]; exact putAll_g f 81 50 slotsCs7p a0 sbCs7p (by kernel_rfl) zsz rfl g81
        have h83 : f 52 = .bool false := hf 52 (by decide)
        have r83 : aA.eval (.tmp 83) = .bool false := by rw [← hA]; exact putAll_at f 83 52 slotsCs7p a0 sbCs7p (by kernel_rfl) zsz rfl h83
        exact flw_val rfl ((wanted_of rfl 81 rfl t81).trans rfl) (.bool false) (ex_move (.tmp 83) rfl r83) hS (Flz.refl _) (updF_self _ _ _)
      · intro f w1 hS hf
        generalize hA : putAll _ _ f = aA
        have g84 : f 53 = .bool false := hf 53 (by decide)
        have t84 : aA.tmps[84]? = some (.bool false) := by rw [← hA]; exact putAll_g f 84 53 slotsCs7p a0 sbCs7p (by kernel_rfl) zsz rfl g84
        have r11 : aA.eval (.tmp 11) = .pointer (some ⟨b5_6, 0, none⟩) := by rw [← hA]; exact putAll_off f 11 slotsCs7p a0 (by kernel_rfl) z11
        exact flw_val rfl ((wanted_of rfl 84 rfl t84).trans rfl) (.agg (encU a.2.1).toArray) (ex_loadR 24 (.tmp 11) rfl ⟨b5_6, 0, none⟩ r11 (fun _ => by kernel_rfl) (encU a.2.1) (by rw [encU_len]; kernel_rfl) ((HX_b5_6.out.keepB hS).part (encU a.2.1) 0 (encU_all' a.2.1))) hS (Flz.refl _) (updF_self _ _ _)
      · intro f w1 hS hf
        generalize hA : putAll _ _ f = aA
        have g84 : f 53 = .bool false := hf 53 (by decide)
        have t84 : aA.tmps[84]? = some (.bool false) := by rw [← hA]; exact putAll_g f 84 53 slotsCs7p a0 sbCs7p (by kernel_rfl) zsz rfl g84
        have r3 : aA.eval (.tmp 3) = .pointer (some ⟨g1, 0, none⟩) := by rw [← hA]; exact putAll_off f 3 slotsCs7p a0 (by kernel_rfl) z3
        exact flw_val rfl ((wanted_of rfl 84 rfl t84).trans rfl) (.pointer (some ⟨g1, 1, none⟩)) (fld1C (.tmp 3) rfl g1 r3) hS (Flz.refl _) (updF_self _ _ _)
      · intro f w1 hS hf
        generalize hA : putAll _ _ f = aA
        have g84 : f 53 = .bool false := hf 53 (by decide)
        have t84 : aA.tmps[84]? = some (.bool false) := by rw [← hA]; exact putAll_g f 84 53 slotsCs7p a0 sbCs7p (by kernel_rfl) zsz rfl g84
        have h86 : f 55 = .pointer (some ⟨g1, 1, none⟩) := hf 55 (by decide)
        have r86 : aA.eval (.tmp 86) = .pointer (some ⟨g1, 1, none⟩) := by rw [← hA]; exact putAll_at f 86 55 slotsCs7p a0 sbCs7p (by kernel_rfl) zsz rfl h86
        exact flw_val rfl ((wanted_of rfl 84 rfl t84).trans rfl) (.agg (encU a.2.1).toArray) (ex_loadR 24 (.tmp 86) rfl ⟨g1, 1, none⟩ r86 (fun _ => by kernel_rfl) (encU a.2.1) (by rw [encU_len]; kernel_rfl) ((HX1.out.keepB hS).part (encU a.2.1) 1 (encC_key a))) hS (Flz.refl _) (updF_self _ _ _)
      · intro f w1 hS hf
        generalize hA : putAll _ _ f = aA
        have g84 : f 53 = .bool false := hf 53 (by decide)
        have t84 : aA.tmps[84]? = some (.bool false) := by rw [← hA]; exact putAll_g f 84 53 slotsCs7p a0 sbCs7p (by kernel_rfl) zsz rfl g84
        have h85 : f 54 = .agg (encU a.2.1).toArray := hf 54 (by decide)
        have r85 : aA.eval (.tmp 85) = .agg (encU a.2.1).toArray := by rw [← hA]; exact putAll_at f 85 54 slotsCs7p a0 sbCs7p (by kernel_rfl) zsz rfl h85
        have h87 : f 56 = .agg (encU a.2.1).toArray := hf 56 (by decide)
        have r87 : aA.eval (.tmp 87) = .agg (encU a.2.1).toArray := by rw [← hA]; exact putAll_at f 87 56 slotsCs7p a0 sbCs7p (by kernel_rfl) zsz rfl h87
        exact flw_val rfl ((wanted_of rfl 84 rfl t84).trans rfl) (.bool true) (Eq.trans (eql_su 24 (.tmp 85) (.tmp 87) _ rfl a.2.1 a.2.1 r85 r87 (by kernel_rfl) (by kernel_rfl)) (by rw [(decide_eq_true (rfl : a.2.1 = a.2.1))])) hS (Flz.refl _) (updF_self _ _ _)
      · intro f w1 hS hf
        generalize hA : putAll _ _ f = aA
        have g81 : f 50 = .bool true := hf 50 (by decide)
        have t81 : aA.tmps[81]? = some (.bool true) := by rw [← hA]; exact putAll_g f 81 50 slotsCs7p a0 sbCs7p (by kernel_rfl) zsz rfl g81
        have h84 : f 53 = .bool false := hf 53 (by decide)
        have r84 : aA.eval (.tmp 84) = .bool false := by rw [← hA]; exact putAll_at f 84 53 slotsCs7p a0 sbCs7p (by kernel_rfl) zsz rfl h84
        have h88 : f 57 = .bool true := hf 57 (by decide)
        have r88 : aA.eval (.tmp 88) = .bool true := by rw [← hA]; exact putAll_at f 88 57 slotsCs7p a0 sbCs7p (by kernel_rfl) zsz rfl h88
        exact flw_val rfl ((wanted_of rfl 81 rfl t81).trans rfl) (.bool true) (ex_pick (.tmp 84) _ (.tmp 88) rfl false r84 ((if_neg (by decide)).trans r88)) hS (Flz.refl _) (updF_self _ _ _)
      · intro f w1 hS hf
        generalize hA : putAll _ _ f = aA
        have h81 : f 50 = .bool true := hf 50 (by decide)
        have r81 : aA.eval (.tmp 81) = .bool true := by rw [← hA]; exact putAll_at f 81 50 slotsCs7p a0 sbCs7p (by kernel_rfl) zsz rfl h81
        have h89 : f 58 = .bool true := hf 58 (by decide)
        have r89 : aA.eval (.tmp 89) = .bool true := by rw [← hA]; exact putAll_at f 89 58 slotsCs7p a0 sbCs7p (by kernel_rfl) zsz rfl h89
        exact flw_val rfl rfl (.bool true) (ex_pick (.tmp 81) (.tmp 89) _ rfl true r81 ((if_pos rfl).trans r89)) hS (Flz.refl _) (updF_self _ _ _)
      · intro f w1 hS hf
        generalize hA : putAll _ _ f = aA
        have h90 : f 59 = .bool true := hf 59 (by decide)
        have r90 : aA.eval (.tmp 90) = .bool true := by rw [← hA]; exact putAll_at f 90 59 slotsCs7p a0 sbCs7p (by kernel_rfl) zsz rfl h90
        exact flw_val rfl rfl (.bool true) (ex_move (.tmp 90) rfl r90) hS (Flz.refl _) (updF_self _ _ _)
      · intro f w1 hS hf
        generalize hA : putAll _ _ f = aA
        have g91 : f 60 = .bool true := hf 60 (by decide)
        have t91 : aA.tmps[91]? = some (.bool true) := by rw [← hA]; exact putAll_g f 91 60 slotsCs7p a0 sbCs7p (by kernel_rfl) zsz rfl g91
        have r13 : aA.eval (.tmp 13) = .bool true := by rw [← hA]; exact putAll_off f 13 slotsCs7p a0 (by kernel_rfl) z13
        exact flw_val rfl ((wanted_of rfl 91 rfl t91).trans rfl) (.bool true) (ex_move (.tmp 13) rfl r13) hS (Flz.refl _) (updF_self _ _ _)
      · intro f w1 hS hf
        generalize hA : putAll _ _ f = aA
        have g91 : f 60 = .bool true := hf 60 (by decide)
        have t91 : aA.tmps[91]? = some (.bool true) := by rw [← hA]; exact putAll_g f 91 60 slotsCs7p a0 sbCs7p (by kernel_rfl) zsz rfl g91
        have h92 : f 61 = .bool true := hf 61 (by decide)
        have r92 : aA.eval (.tmp 92) = .bool true := by rw [← hA]; exact putAll_at f 92 61 slotsCs7p a0 sbCs7p (by kernel_rfl) zsz rfl h92
        exact flw_val rfl ((wanted_of rfl 91 rfl t91).trans rfl) (.bool true) (ex_move (.tmp 92) rfl r92) hS (Flz.refl _) (updF_self _ _ _)
      · intro f w1 hS hf
        generalize hA : putAll _ _ f = aA
        have g93 : f 62 = .bool true := hf 62 (by decide)
        have t93 : aA.tmps[93]? = some (.bool true) := by rw [← hA]; exact putAll_g f 93 62 slotsCs7p a0 sbCs7p (by kernel_rfl) zsz rfl g93
        exact flw_skip rfl ((wanted_of rfl 93 rfl t93).trans rfl) hS (Flz.refl _) (updF_self _ _ _)
      · intro f w1 hS hf
        generalize hA : putAll _ _ f = aA
        have g93 : f 62 = .bool true := hf 62 (by decide)
        have t93 : aA.tmps[93]? = some (.bool true) := by rw [← hA]; exact putAll_g f 93 62 slotsCs7p a0 sbCs7p (by kernel_rfl) zsz rfl g93
        exact flw_skip rfl ((wanted_of rfl 93 rfl t93).trans rfl) hS (Flz.refl _) (updF_self _ _ _)
      · intro f w1 hS hf
        generalize hA : putAll _ _ f = aA
        have g91 : f 60 = .bool true := hf 60 (by decide)
        have t91 : aA.tmps[91]? = some (.bool true) := by rw [← hA]; exact putAll_g f 91 60 slotsCs7p a0 sbCs7p (by kernel_rfl) zsz rfl g91
        have h93 : f 62 = .bool true := hf 62 (by decide)
        have r93 : aA.eval (.tmp 93) = .bool true := by rw [← hA]; exact putAll_at f 93 62 slotsCs7p a0 sbCs7p (by kernel_rfl) zsz rfl h93
        exact flw_val rfl ((wanted_of rfl 91 rfl t91).trans rfl) (.bool true) (ex_pick (.tmp 93) _ (.tmp 95) rfl true r93 ((if_pos rfl).trans rfl)) hS (Flz.refl _) (updF_self _ _ _)
      · intro f w1 hS hf
        generalize hA : putAll _ _ f = aA
        have h91 : f 60 = .bool true := hf 60 (by decide)
        have r91 : aA.eval (.tmp 91) = .bool true := by rw [← hA]; exact putAll_at f 91 60 slotsCs7p a0 sbCs7p (by kernel_rfl) zsz rfl h91
        have h96 : f 65 = .bool true := hf 65 (by decide)
        have r96 : aA.eval (.tmp 96) = .bool true := by rw [← hA]; exact putAll_at f 96 65 slotsCs7p a0 sbCs7p (by kernel_rfl) zsz rfl h96
        exact flw_val rfl rfl (.bool true) (ex_pick (.tmp 91) (.tmp 96) _ rfl true r91 ((if_pos rfl).trans r96)) hS (Flz.refl _) (updF_self _ _ _)
      · intro f w1 hS hf
        generalize hA : putAll _ _ f = aA
        have h97 : f 66 = .bool true := hf 66 (by decide)
        have r97 : aA.eval (.tmp 97) = .bool true := by rw [← hA]; exact putAll_at f 97 66 slotsCs7p a0 sbCs7p (by kernel_rfl) zsz rfl h97
        exact flw_val rfl rfl (.bool true) (ex_move (.tmp 97) rfl r97) hS (Flz.refl _) (updF_self _ _ _)
      · intro f w1 hS hf
        generalize hA : putAll _ _ f = aA
        have g98 : f 67 = .bool true := hf 67 (by decide)
        have t98 : aA.tmps[98]? = some (.bool true) := by rw [← hA]; exact putAll_g f 98 67 slotsCs7p a0 sbCs7p (by kernel_rfl) zsz rfl g98
        have r3 : aA.eval (.tmp 3) = .pointer (some ⟨g1, 0, none⟩) := by rw [← hA]; exact putAll_off f 3 slotsCs7p a0 (by kernel_rfl) z3
        exact flw_val rfl ((wanted_of rfl 98 rfl t98).trans rfl) (aggC a) (ex_loadR 28 (.tmp 3) rfl ⟨g1, 0, none⟩ r3 (fun _ => by kernel_rfl) (encC a) (by rw [encC_len]; kernel_rfl) ((HX1.out.keepB hS).part (encC a) 0 (encC_all a))) hS (Flz.refl _) (updF_self _ _ _)
      · intro f w1 hS hf
        generalize hA : putAll _ _ f = aA
        have g98 : f 67 = .bool true := hf 67 (by decide)
        have t98 : aA.tmps[98]? = some (.bool true) := by rw [← hA]; exact putAll_g f 98 67 slotsCs7p a0 sbCs7p (by kernel_rfl) zsz rfl g98
        have h99 : f 68 = aggC a := hf 68 (by decide)
        have r99 : aA.eval (.tmp 99) = aggC a := by rw [← hA]; exact putAll_at f 99 68 slotsCs7p a0 sbCs7p (by kernel_rfl) zsz rfl h99
        exact flw_call rfl ((wanted_of rfl 98 rfl t98).trans rfl) 16 #[(.tmp 99)] _ rfl #[aggC a] (by simp only [List.map_toArray, List.map_cons, List.map_nil, r99]) (fun w => by kernel_rfl) (fun v _ => v = .bool (decide (a = zC))) (zeroC_any a w1) (fun v w' hr hb => ⟨hS.trans (hb.mono hS.size), Flz.of hb, (updF_self _ _ _).trans hr⟩)
      · intro f w1 hS hf
        generalize hA : putAll _ _ f = aA
        have g98 : f 67 = .bool true := hf 67 (by decide)
        have t98 : aA.tmps[98]? = some (.bool true) := by rw [← hA]; exact putAll_g f 98 67 slotsCs7p a0 sbCs7p (by kernel_rfl) zsz rfl g98
        have r9 : aA.eval (.tmp 9) = .pointer (some ⟨b4_4, 0, none⟩) := by rw [← hA]; exact putAll_off f 9 slotsCs7p a0 (by kernel_rfl) z9
        exact flw_val rfl ((wanted_of rfl 98 rfl t98).trans rfl) (aggC a) (ex_loadR 37 (.tmp 9) rfl ⟨b4_4, 0, none⟩ r9 (fun _ => by kernel_rfl) (encC a) (by rw [encC_len]; kernel_rfl) ((HX_b4_4.out.keepB hS).part (encC a) 0 (encC_all a))) hS (Flz.refl _) (updF_self _ _ _)
      · intro f w1 hS hf
        generalize hA : putAll _ _ f = aA
        have g98 : f 67 = .bool true := hf 67 (by decide)
        have t98 : aA.tmps[98]? = some (.bool true) := by rw [← hA]; exact putAll_g f 98 67 slotsCs7p a0 sbCs7p (by kernel_rfl) zsz rfl g98
        exact flw_val rfl ((wanted_of rfl 98 rfl t98).trans rfl) (aggC zC) (ex_build 37 _ rfl (encC zC).toArray [] (by kernel_rfl) (builtR0)) hS (Flz.refl _) (updF_self _ _ _)
      · intro f w1 hS hf
        generalize hA : putAll _ _ f = aA
        have g98 : f 67 = .bool true := hf 67 (by decide)
        have t98 : aA.tmps[98]? = some (.bool true) := by rw [← hA]; exact putAll_g f 98 67 slotsCs7p a0 sbCs7p (by kernel_rfl) zsz rfl g98
        have h101 : f 70 = aggC a := hf 70 (by decide)
        have r101 : aA.eval (.tmp 101) = aggC a := by rw [← hA]; exact putAll_at f 101 70 slotsCs7p a0 sbCs7p (by kernel_rfl) zsz rfl h101
        have h102 : f 71 = aggC zC := hf 71 (by decide)
        have r102 : aA.eval (.tmp 102) = aggC zC := by rw [← hA]; exact putAll_at f 102 71 slotsCs7p a0 sbCs7p (by kernel_rfl) zsz rfl h102
        exact flw_val rfl ((wanted_of rfl 98 rfl t98).trans rfl) (.bool (decide (a = zC))) (eqlR (.tmp 101) (.tmp 102) _ rfl a zC r101 r102) hS (Flz.refl _) (updF_self _ _ _)
      · intro f w1 hS hf
        generalize hA : putAll _ _ f = aA
        have g98 : f 67 = .bool true := hf 67 (by decide)
        have t98 : aA.tmps[98]? = some (.bool true) := by rw [← hA]; exact putAll_g f 98 67 slotsCs7p a0 sbCs7p (by kernel_rfl) zsz rfl g98
        have h100 : f 69 = .bool (decide (a = zC)) := hf 69 (by decide)
        have r100 : aA.eval (.tmp 100) = .bool (decide (a = zC)) := by rw [← hA]; exact putAll_at f 100 69 slotsCs7p a0 sbCs7p (by kernel_rfl) zsz rfl h100
        have h103 : f 72 = .bool (decide (a = zC)) := hf 72 (by decide)
        have r103 : aA.eval (.tmp 103) = .bool (decide (a = zC)) := by rw [← hA]; exact putAll_at f 103 72 slotsCs7p a0 sbCs7p (by kernel_rfl) zsz rfl h103
        exact flw_val rfl ((wanted_of rfl 98 rfl t98).trans rfl) (.bool true) (Eq.trans (ex_eqB _ _ (.tmp 100) (.tmp 103) rfl (by kernel_rfl) (decide (a = zC)) (decide (a = zC)) r100 r103) (by rw [(beq_self_eq_true (decide (a = zC)))])) hS (Flz.refl _) (updF_self _ _ _)
      · intro f w1 hS hf
        generalize hA : putAll _ _ f = aA
        have h98 : f 67 = .bool true := hf 67 (by decide)
        have r98 : aA.eval (.tmp 98) = .bool true := by rw [← hA]; exact putAll_at f 98 67 slotsCs7p a0 sbCs7p (by kernel_rfl) zsz rfl h98
        have h104 : f 73 = .bool true := hf 73 (by decide)
        have r104 : aA.eval (.tmp 104) = .bool true := by rw [← hA]; exact putAll_at f 104 73 slotsCs7p a0 sbCs7p (by kernel_rfl) zsz rfl h104
        exact flw_val rfl rfl (.bool true) (ex_pick (.tmp 98) (.tmp 104) _ rfl true r98 ((if_pos rfl).trans r104)) hS (Flz.refl _) (updF_self _ _ _)
      · intro f w1 hS hf
        generalize hA : putAll _ _ f = aA
        have h105 : f 74 = .bool true := hf 74 (by decide)
        have r105 : aA.eval (.tmp 105) = .bool true := by rw [← hA]; exact putAll_at f 105 74 slotsCs7p a0 sbCs7p (by kernel_rfl) zsz rfl h105
        exact flw_val rfl rfl (.bool true) (ex_assign (.tmp 105) rfl r105) hS (Flz.refl _) (updF_self _ _ _)
    intro f u7 hS hf hap
    have h0 : f 0 = .agg (encU sx).toArray := hf 0 (by decide)
    have h1 : f 1 = .agg (encU (chkS sx)).toArray := hf 1 (by decide)
    have h2 : f 2 = .agg (encU sx).toArray := hf 2 (by decide)
    have h3 : f 3 = .agg (encU (chkS sx)).toArray := hf 3 (by decide)
    have h4 : f 4 = .bool true := hf 4 (by decide)
    have h5 : f 5 = .bool true := hf 5 (by decide)
    have h6 : f 6 = aggC a := hf 6 (by decide)
    have h7 : f 7 = .agg (encU sx).toArray := hf 7 (by decide)
    have h8 : f 8 = aggC (putC a sx) := hf 8 (by decide)
    have h9 : f 9 = aggC (putC a sx) := hf 9 (by decide)
    have h10 : f 10 = aggC a := hf 10 (by decide)
    have h11 : f 11 = .agg (encU sx).toArray := hf 11 (by decide)
    have h12 : f 12 = aggC (withC a 1 sx (chkS sx)) := hf 12 (by decide)
    have h13 : f 13 = .bool true := hf 13 (by decide)
    have h14 : f 14 = .bool true := hf 14 (by decide)
    have h15 : f 15 = .bool true := hf 15 (by decide)
    have h16 : f 16 = aggC a := hf 16 (by decide)
    have h17 : f 17 = .agg (encU sx).toArray := hf 17 (by decide)
    have h18 : f 18 = aggC (takeC a sx) := hf 18 (by decide)
    have h19 : f 19 = aggC (takeC a sx) := hf 19 (by decide)
    have h20 : f 20 = aggC a := hf 20 (by decide)
    have h21 : f 21 = .agg (encU sx).toArray := hf 21 (by decide)
    have h22 : f 22 = aggC (withC a (-1) sx (chkS sx)) := hf 22 (by decide)
    have h23 : f 23 = .bool true := hf 23 (by decide)
    have h24 : f 24 = .bool true := hf 24 (by decide)
    have h25 : f 25 = .bool true := hf 25 (by decide)
    have h26 : f 26 = aggC a := hf 26 (by decide)
    have h27 : f 27 = aggC b := hf 27 (by decide)
    have h28 : f 28 = aggC (minusC a b) := hf 28 (by decide)
    have h29 : f 29 = aggC (minusC a b) := hf 29 (by decide)
    have h30 : f 30 = aggC a := hf 30 (by decide)
    have h31 : f 31 = aggC b := hf 31 (by decide)
    have h32 : f 32 = aggC (minusC a b) := hf 32 (by decide)
    have h33 : f 33 = .bool true := hf 33 (by decide)
    have h34 : f 34 = .bool true := hf 34 (by decide)
    have h35 : f 35 = .bool true := hf 35 (by decide)
    have h36 : f 36 = .bool true := hf 36 (by decide)
    have h37 : f 37 = .bool true := hf 37 (by decide)
    have h38 : f 38 = .bool true := hf 38 (by decide)
    have h39 : f 39 = .bool true := hf 39 (by decide)
    have h40 : f 40 = .bool true := hf 40 (by decide)
    have h41 : f 41 = .bool (a.1 == (1 : Int)) := hf 41 (by decide)
    have h42 : f 42 = .bool true := hf 42 (by decide)
    have h43 : f 43 = .bool true := hf 43 (by decide)
    have h44 : f 44 = .pointer (some ⟨b4_4, 0, none⟩) := hf 44 (by decide)
    have h45 : f 45 = .int .i64 (a.1) := hf 45 (by decide)
    have h46 : f 46 = .bool (a.1 == (1 : Int)) := hf 46 (by decide)
    have h47 : f 47 = .bool (a.1 == (1 : Int)) := hf 47 (by decide)
    have h48 : f 48 = .bool true := hf 48 (by decide)
    have h49 : f 49 = .bool true := hf 49 (by decide)
    have h50 : f 50 = .bool true := hf 50 (by decide)
    have h51 : f 51 = .bool true := hf 51 (by decide)
    have h52 : f 52 = .bool false := hf 52 (by decide)
    have h53 : f 53 = .bool false := hf 53 (by decide)
    have h54 : f 54 = .agg (encU a.2.1).toArray := hf 54 (by decide)
    have h55 : f 55 = .pointer (some ⟨g1, 1, none⟩) := hf 55 (by decide)
    have h56 : f 56 = .agg (encU a.2.1).toArray := hf 56 (by decide)
    have h57 : f 57 = .bool true := hf 57 (by decide)
    have h58 : f 58 = .bool true := hf 58 (by decide)
    have h59 : f 59 = .bool true := hf 59 (by decide)
    have h60 : f 60 = .bool true := hf 60 (by decide)
    have h61 : f 61 = .bool true := hf 61 (by decide)
    have h62 : f 62 = .bool true := hf 62 (by decide)
    have h63 : f 63 = undef := hf 63 (by decide)
    have h64 : f 64 = undef := hf 64 (by decide)
    have h65 : f 65 = .bool true := hf 65 (by decide)
    have h66 : f 66 = .bool true := hf 66 (by decide)
    have h67 : f 67 = .bool true := hf 67 (by decide)
    have h68 : f 68 = aggC a := hf 68 (by decide)
    have h69 : f 69 = .bool (decide (a = zC)) := hf 69 (by decide)
    have h70 : f 70 = aggC a := hf 70 (by decide)
    have h71 : f 71 = aggC zC := hf 71 (by decide)
    have h72 : f 72 = .bool (decide (a = zC)) := hf 72 (by decide)
    have h73 : f 73 = .bool true := hf 73 (by decide)
    have h74 : f 74 = .bool true := hf 74 (by decide)
    have h75 : f 75 = .bool true := hf 75 (by decide)
    clear hf hap
    clear zsz z7 z8 z3 z9 z4 z10 z13 z14 z12 z11
    subst ha0
    simp only [slotsCs7p, putAll, h0, h1, h2, h3, h4, h5, h6, h7, h8, h9, h10, h11, h12, h13, h14, h15, h16, h17, h18, h19, h20, h21, h22, h23, h24, h25, h26, h27, h28, h29, h30, h31, h32, h33, h34, h35, h36, h37, h38, h39, h40, h41, h42, h43, h44, h45, h46, h47, h48, h49, h50, h51, h52, h53, h54, h55, h56, h57, h58, h59, h60, h61, h62, h63, h64, h65, h66, h67, h68, h69, h70, h71, h72, h73, h74, h75, Act.put, List.setIfInBounds_toArray, List.set_cons_zero, List.set_cons_succ]
    clear h0 h1 h2 h3 h4 h5 h6 h7 h8 h9 h10 h11 h12 h13 h14 h15 h16 h17 h18 h19 h20 h21 h22 h23 h24 h25 h26 h27 h28 h29 h30 h31 h32 h33 h34 h35 h36 h37 h38 h39 h40 h41 h42 h43 h44 h45 h46 h47 h48 h49 h50 h51 h52 h53 h54 h55 h56 h57 h58 h59 h60 h61 h62 h63 h64 h65 h66 h67 h68 h69 h70 h71 h72 h73 h74 h75
    refine tl_nilN ?_
    replace HX1 := Lib.hid (HX1.out.keepB hS)
    replace HX2 := Lib.hid (HX2.out.keepB hS)
    replace HX3 := Lib.hid (HX3.out.keepB hS)
    replace HX_b3_2 := Lib.hid (HX_b3_2.out.keepB hS)
    replace HX_b3_3 := Lib.hid (HX_b3_3.out.keepB hS)
    replace HX_b4_4 := Lib.hid (HX_b4_4.out.keepB hS)
    replace HX_b4_5 := Lib.hid (HX_b4_5.out.keepB hS)
    replace HX_b5_6 := Lib.hid (HX_b5_6.out.keepB hS)
    replace HB := Lib.hid (HB.out.trans (hS.mono HB.out.size))
    clear hS
    go_wp2_with fail
    go_ret
    first | exact ⟨⟨_, rfl, rfl⟩, HB.out⟩ | exact ⟨rfl, HB.out⟩
  | false =>
    go_upto_region 5 with fail
    refine wp_act (fun a0 ha0 => ?_)
    have zsz : a0.tmps.size = 106 := by rw [ha0]; rfl
    have z3 : a0.eval (.tmp 3) = .pointer (some ⟨g1, 0, none⟩) := by rw [ha0]; rfl
    refine wp_region_flwo (E := Flz) [] slotsCs5 waitCs5 [Fct.val Flz 0 (aggC a), Fct.val Flz 1 (.tuple #[.agg (encU zS).toArray, .bool false, .bool false]), Fct.val Flz 2 (.tuple #[.agg (encU zS).toArray, .bool false, .bool false]), Fct.val Flz 3 (.agg (encU zS).toArray), Fct.val Flz 4 (.bool false), Fct.val Flz 5 (.bool false), Fct.obj 6 (fun v w => ∃ g, v = .pointer (some ⟨g, 0, none⟩) ∧ w6.heap.size ≤ g ∧ Has w g 24 (encU zS)) (fun _ _ _ ⟨g, a, b, c⟩ he => ⟨g, a, b, c.flz he (by decide)⟩)] (fun w' => Below w6.heap.size w6 w') _ 7 3 chkCs5 (by kernel_rfl) (by kernel_rfl) (by kernel_rfl) (by decide) (Below.refl _ _) ?_ ?_
    · refine lt_s (lt_s (lt_s (lt_s (lt_s (lt_s (lt_s (lt_0) ?_) ?_) ?_) ?_) ?_) ?_) ?_
      · intro f w1 hS hf
        generalize hA : putAll _ _ f = aA
        have r3 : aA.eval (.tmp 3) = .pointer (some ⟨g1, 0, none⟩) := by rw [← hA]; exact putAll_off f 3 slotsCs5 a0 (by kernel_rfl) z3
        exact flw_val rfl rfl (aggC a) (ex_loadR 28 (.tmp 3) rfl ⟨g1, 0, none⟩ r3 (fun _ => by kernel_rfl) (encC a) (by rw [encC_len]; kernel_rfl) ((HX1.out.keepB hS).part (encC a) 0 (encC_all a))) hS (Flz.refl _) (updF_self _ _ _)
      · intro f w1 hS hf
        generalize hA : putAll _ _ f = aA
        have h24 : f 0 = aggC a := hf 0 (by decide)
        have r24 : aA.eval (.tmp 24) = aggC a := by rw [← hA]; exact putAll_at f 24 0 slotsCs5 a0 sbCs5 (by kernel_rfl) zsz rfl h24
        exact flw_call rfl rfl 12 #[(.tmp 24)] _ rfl #[aggC a] (by simp only [List.map_toArray, List.map_cons, List.map_nil, r24]) (fun w => by kernel_rfl) (fun v _ => v = .tuple #[.agg (encU zS).toArray, .bool false, .bool false]) (as_any (pure_any a w1 (HL.out.keep (HB.out.trans (hS.mono HB.out.size)) HSZ.out)) (pureV_off hp)) (fun v w' hr hb => ⟨hS.trans (hb.mono hS.size), Flz.of hb, (updF_self _ _ _).trans hr⟩)
      · intro f w1 hS hf
        generalize hA : putAll _ _ f = aA
        have h25 : f 1 = .tuple #[.agg (encU zS).toArray, .bool false, .bool false] := hf 1 (by decide)
        have r25 : aA.eval (.tmp 25) = .tuple #[.agg (encU zS).toArray, .bool false, .bool false] := by rw [← hA]; exact putAll_at f 25 1 slotsCs5 a0 sbCs5 (by kernel_rfl) zsz rfl h25
        exact flw_val rfl rfl (.tuple #[.agg (encU zS).toArray, .bool false, .bool false]) (ex_move (.tmp 25) rfl r25) hS (Flz.refl _) (updF_self _ _ _)
      · intro f w1 hS hf
        generalize hA : putAll _ _ f = aA
        have h23 : f 2 = .tuple #[.agg (encU zS).toArray, .bool false, .bool false] := hf 2 (by decide)
        have r23 : aA.eval (.tmp 23) = .tuple #[.agg (encU zS).toArray, .bool false, .bool false] := by rw [← hA]; exact putAll_at f 23 2 slotsCs5 a0 sbCs5 (by kernel_rfl) zsz rfl h23
        exact flw_val rfl rfl (.agg (encU zS).toArray) (ex_extract (.tmp 23) 0 rfl r23 rfl) hS (Flz.refl _) (updF_self _ _ _)
      · intro f w1 hS hf
        generalize hA : putAll _ _ f = aA
        have h23 : f 2 = .tuple #[.agg (encU zS).toArray, .bool false, .bool false] := hf 2 (by decide)
        have r23 : aA.eval (.tmp 23) = .tuple #[.agg (encU zS).toArray, .bool false, .bool false] := by rw [← hA]; exact putAll_at f 23 2 slotsCs5 a0 sbCs5 (by kernel_rfl) zsz rfl h23
        exact flw_val rfl rfl (.bool false) (ex_extract (.tmp 23) 1 rfl r23 rfl) hS (Flz.refl _) (updF_self _ _ _)
      · intro f w1 hS hf
        generalize hA : putAll _ _ f = aA
        have h23 : f 2 = .tuple #[.agg (encU zS).toArray, .bool false, .bool false] := hf 2 (by decide)
        have r23 : aA.eval (.tmp 23) = .tuple #[.agg (encU zS).toArray, .bool false, .bool false] := by rw [← hA]; exact putAll_at f 23 2 slotsCs5 a0 sbCs5 (by kernel_rfl) zsz rfl h23
        exact flw_val rfl rfl (.bool false) (ex_extract (.tmp 23) 2 rfl r23 rfl) hS (Flz.refl _) (updF_self _ _ _)
      · intro f w1 hS hf
        generalize hA : putAll _ _ f = aA
        exact flw_wp rfl rfl (fun K hK => wp_alloc_row 24 rfl (.agg (encU zS).toArray) (fun w => by kernel_rfl) (hK _ _ (hS.alloc hS.size _) (Flz.al _ _) ⟨_, updF_self _ _ _, hS.size, Has.made' _ _ _ _ rfl⟩))
    intro f u5 hS hf hap
    have h0 : f 0 = aggC a := hf 0 (by decide)
    have h1 : f 1 = .tuple #[.agg (encU zS).toArray, .bool false, .bool false] := hf 1 (by decide)
    have h2 : f 2 = .tuple #[.agg (encU zS).toArray, .bool false, .bool false] := hf 2 (by decide)
    have h3 : f 3 = .agg (encU zS).toArray := hf 3 (by decide)
    have h4 : f 4 = .bool false := hf 4 (by decide)
    have h5 : f 5 = .bool false := hf 5 (by decide)
    obtain ⟨b5_6, h6, hgb6, hhb6⟩ := hf 6 (by decide)
    clear hf hap
    clear zsz z3
    subst ha0
    simp only [slotsCs5, putAll, h0, h1, h2, h3, h4, h5, h6, Act.put, List.setIfInBounds_toArray, List.set_cons_zero, List.set_cons_succ]
    clear h0 h1 h2 h3 h4 h5 h6
    refine tl_store rfl (by kernel_rfl) 24 (.tmp 11) (.tmp 26) rfl b5_6 (encU zS) _ rfl rfl _ hhb6 (by rw [encU_len]; kernel_rfl) (by simp only [encU_len]) (encU_all _) ?_
    intro w7 hp6 hbl hot
    replace hS := hS.trans (hbl _ hgb6)
    clear hbl hot hhb6
    try simp only [Act.put]
    refine tl_pure rfl (by kernel_rfl) (.bool false) (ex_assign (.tmp 27) rfl rfl) ?_
    try simp only [Act.put, List.setIfInBounds_toArray, List.set_cons_zero, List.set_cons_succ]
    refine tl_pure rfl (by kernel_rfl) (.bool false) (ex_assign (.tmp 28) rfl rfl) ?_
    try simp only [Act.put, List.setIfInBounds_toArray, List.set_cons_zero, List.set_cons_succ]
    refine tl_nil ?_
    replace HX1 := Lib.hid (HX1.out.keepB hS)
    replace HX2 := Lib.hid (HX2.out.keepB hS)
    replace HX3 := Lib.hid (HX3.out.keepB hS)
    replace HX_b3_2 := Lib.hid (HX_b3_2.out.keepB hS)
    replace HX_b3_3 := Lib.hid (HX_b3_3.out.keepB hS)
    replace HX_b4_4 := Lib.hid (HX_b4_4.out.keepB hS)
    replace HX_b4_5 := Lib.hid (HX_b4_5.out.keepB hS)
    have HBW := Lib.hid HB.out.size
    replace HB := Lib.hid (HB.out.trans (hS.mono HB.out.size))
    clear hS
    have HGb5_6 : Hid (w.heap.size ≤ b5_6) := Lib.hid (Nat.le_trans HBW.out hgb6)
    have HX_b5_6 : Hid (Has w7 b5_6 24 (encU zS)) := Lib.hid hp6
    clear hp6 hgb6
    clear HBW
    go_upto_region 6 with fail
    refine wp_act (fun a0 ha0 => ?_)
    have zsz : a0.tmps.size = 106 := by rw [ha0]; rfl
    have z9 : a0.eval (.tmp 9) = .pointer (some ⟨b4_4, 0, none⟩) := by rw [ha0]; rfl
    refine wp_region_flwo (E := Flz) [] slotsCs6 waitCs6 [Fct.val Flz 0 (aggC a), Fct.val Flz 1 (.bool false), Fct.val Flz 2 (.bool false)] (fun w' => Below w7.heap.size w7 w') _ 3 0 chkCs6 (by kernel_rfl) (by kernel_rfl) (by kernel_rfl) (by decide) (Below.refl _ _) ?_ ?_
    · refine lt_s (lt_s (lt_s (lt_0) ?_) ?_) ?_
      · intro f w1 hS hf
        generalize hA : putAll _ _ f = aA
        have r9 : aA.eval (.tmp 9) = .pointer (some ⟨b4_4, 0, none⟩) := by rw [← hA]; exact putAll_off f 9 slotsCs6 a0 (by kernel_rfl) z9
        exact flw_val rfl rfl (aggC a) (ex_loadR 37 (.tmp 9) rfl ⟨b4_4, 0, none⟩ r9 (fun _ => by kernel_rfl) (encC a) (by rw [encC_len]; kernel_rfl) ((HX_b4_4.out.keepB hS).part (encC a) 0 (encC_all a))) hS (Flz.refl _) (updF_self _ _ _)
      · intro f w1 hS hf
        generalize hA : putAll _ _ f = aA
        have h29 : f 0 = aggC a := hf 0 (by decide)
        have r29 : aA.eval (.tmp 29) = aggC a := by rw [← hA]; exact putAll_at f 29 0 slotsCs6 a0 sbCs6 (by kernel_rfl) zsz rfl h29
        exact flw_call rfl rfl 18 #[(.tmp 29)] _ rfl #[aggC a] (by simp only [List.map_toArray, List.map_cons, List.map_nil, r29]) (fun w => by kernel_rfl) (fun v _ => v = .bool false) (as_any (rpure_any a w1) (congrArg Value.bool hp)) (fun v w' hr hb => ⟨hS.trans (hb.mono hS.size), Flz.of hb, (updF_self _ _ _).trans hr⟩)
      · intro f w1 hS hf
        generalize hA : putAll _ _ f = aA
        have h30 : f 1 = .bool false := hf 1 (by decide)
        have r30 : aA.eval (.tmp 30) = .bool false := by rw [← hA]; exact putAll_at f 30 1 slotsCs6 a0 sbCs6 (by kernel_rfl) zsz rfl h30
        exact flw_val rfl rfl (.bool false) (ex_assign (.tmp 30) rfl r30) hS (Flz.refl _) (updF_self _ _ _)
    intro f u6 hS hf hap
    have h0 : f 0 = aggC a := hf 0 (by decide)
    have h1 : f 1 = .bool false := hf 1 (by decide)
    have h2 : f 2 = .bool false := hf 2 (by decide)
    clear hf hap
    clear zsz z9
    subst ha0
    simp only [slotsCs6, putAll, h0, h1, h2, Act.put, List.setIfInBounds_toArray, List.set_cons_zero, List.set_cons_succ]
    clear h0 h1 h2
    refine tl_nil ?_
    replace HX1 := Lib.hid (HX1.out.keepB hS)
    replace HX2 := Lib.hid (HX2.out.keepB hS)
    replace HX3 := Lib.hid (HX3.out.keepB hS)
    replace HX_b3_2 := Lib.hid (HX_b3_2.out.keepB hS)
    replace HX_b3_3 := Lib.hid (HX_b3_3.out.keepB hS)
    replace HX_b4_4 := Lib.hid (HX_b4_4.out.keepB hS)
    replace HX_b4_5 := Lib.hid (HX_b4_5.out.keepB hS)
    replace HX_b5_6 := Lib.hid (HX_b5_6.out.keepB hS)
    replace HB := Lib.hid (HB.out.trans (hS.mono HB.out.size))
    clear hS
    go_upto_region 7 with fail
    have HST : Hid (Below u6.heap.size u6 u6.drew) := Lib.hid (Below.refl _ _).drew
    replace HX1 := Lib.hid (HX1.out.keepB HST.out)
    replace HX2 := Lib.hid (HX2.out.keepB HST.out)
    replace HX3 := Lib.hid (HX3.out.keepB HST.out)
    replace HX_b3_2 := Lib.hid (HX_b3_2.out.keepB HST.out)
    replace HX_b3_3 := Lib.hid (HX_b3_3.out.keepB HST.out)
    replace HX_b4_4 := Lib.hid (HX_b4_4.out.keepB HST.out)
    replace HX_b4_5 := Lib.hid (HX_b4_5.out.keepB HST.out)
    replace HX_b5_6 := Lib.hid (HX_b5_6.out.keepB HST.out)
    replace HB := Lib.hid (HB.out.trans (HST.out.mono HB.out.size))
    clear HST
    try simp only [List.append_eq, List.cons_append, List.nil_append]
    refine wp_act (fun a0 ha0 => ?_)
    have zsz : a0.tmps.size = 106 := by rw [ha0]; rfl
    have z7 : a0.eval (.tmp 7) = .pointer (some ⟨b3_2, 0, none⟩) := by rw [ha0]; rfl
    have z8 : a0.eval (.tmp 8) = .pointer (some ⟨b3_3, 0, none⟩) := by rw [ha0]; rfl
    have z3 : a0.eval (.tmp 3) = .pointer (some ⟨g1, 0, none⟩) := by rw [ha0]; rfl
    have z9 : a0.eval (.tmp 9) = .pointer (some ⟨b4_4, 0, none⟩) := by rw [ha0]; rfl
    have z4 : a0.eval (.tmp 4) = .pointer (some ⟨g2, 0, none⟩) := by rw [ha0]; rfl
    have z10 : a0.eval (.tmp 10) = .pointer (some ⟨b4_5, 0, none⟩) := by rw [ha0]; rfl
    have z13 : a0.eval (.tmp 13) = .bool false := by rw [ha0]; rfl
    have z14 : a0.eval (.tmp 14) = .bool false := by rw [ha0]; rfl
    have z12 : a0.eval (.tmp 12) = .bool false := by rw [ha0]; rfl
    have z11 : a0.eval (.tmp 11) = .pointer (some ⟨b5_6, 0, none⟩) := by rw [ha0]; rfl
    refine wp_region_flw (E := Flz) [] slotsCs7n waitCs7n [Fct.val Flz 0 (.agg (encU sx).toArray), Fct.val Flz 1 (.agg (encU (chkS sx)).toArray), Fct.val Flz 2 (.agg (encU sx).toArray), Fct.val Flz 3 (.agg (encU (chkS sx)).toArray), Fct.val Flz 4 (.bool true), Fct.val Flz 5 (.bool true), Fct.val Flz 6 (aggC a), Fct.val Flz 7 (.agg (encU sx).toArray), Fct.val Flz 8 (aggC (putC a sx)), Fct.val Flz 9 (aggC (putC a sx)), Fct.val Flz 10 (aggC a), Fct.val Flz 11 (.agg (encU sx).toArray), Fct.val Flz 12 (aggC (withC a 1 sx (chkS sx))), Fct.val Flz 13 (.bool true), Fct.val Flz 14 (.bool true), Fct.val Flz 15 (.bool true), Fct.val Flz 16 (aggC a), Fct.val Flz 17 (.agg (encU sx).toArray), Fct.val Flz 18 (aggC (takeC a sx)), Fct.val Flz 19 (aggC (takeC a sx)), Fct.val Flz 20 (aggC a), Fct.val Flz 21 (.agg (encU sx).toArray), Fct.val Flz 22 (aggC (withC a (-1) sx (chkS sx))), Fct.val Flz 23 (.bool true), Fct.val Flz 24 (.bool true), Fct.val Flz 25 (.bool true), Fct.val Flz 26 (aggC a), Fct.val Flz 27 (aggC b), Fct.val Flz 28 (aggC (minusC a b)), Fct.val Flz 29 (aggC (minusC a b)), Fct.val Flz 30 (aggC a), Fct.val Flz 31 (aggC b), Fct.val Flz 32 (aggC (minusC a b)), Fct.val Flz 33 (.bool true), Fct.val Flz 34 (.bool true), Fct.val Flz 35 (.bool true), Fct.val Flz 36 (.bool false), Fct.val Flz 37 (.bool false), Fct.val Flz 38 (.bool true), Fct.val Flz 39 (.bool true), Fct.val Flz 40 (.bool true), Fct.val Flz 41 (.bool false), Fct.val Flz 42 (.bool false), Fct.val Flz 43 (.bool false), Fct.val Flz 44 (undef), Fct.val Flz 45 (undef), Fct.val Flz 46 (undef), Fct.val Flz 47 (.bool false), Fct.val Flz 48 (.bool true), Fct.val Flz 49 (.bool true), Fct.val Flz 50 (.bool true), Fct.val Flz 51 (.bool false), Fct.val Flz 52 (.bool true), Fct.val Flz 53 (.bool true), Fct.val Flz 54 (undef), Fct.val Flz 55 (undef), Fct.val Flz 56 (undef), Fct.val Flz 57 (undef), Fct.val Flz 58 (.bool true), Fct.val Flz 59 (.bool true), Fct.val Flz 60 (.bool true), Fct.val Flz 61 (.bool false), Fct.val Flz 62 (.bool false), Fct.val Flz 63 (.agg (encU zS).toArray), Fct.val Flz 64 (.bool true), Fct.val Flz 65 (.bool true), Fct.val Flz 66 (.bool true), Fct.val Flz 67 (.bool true), Fct.val Flz 68 (aggC a), Fct.val Flz 69 (.bool (decide (a = zC))), Fct.val Flz 70 (aggC a), Fct.val Flz 71 (aggC zC), Fct.val Flz 72 (.bool (decide (a = zC))), Fct.val Flz 73 (.bool true), Fct.val Flz 74 (.bool true), Fct.val Flz 75 (.bool true)] (fun w' => Below u6.drew.heap.size u6.drew w') _ 76 0 chkCs7n (by kernel_rfl) (by kernel_rfl) (by kernel_rfl) (by kernel_rfl) (by decide) (Below.refl _ _) ?_ ?_
    · refine lt_s (lt_s (lt_s (lt_s (lt_s (lt_s (lt_s (lt_s (lt_s (lt_s (lt_s (lt_s (lt_s (lt_s (lt_s (lt_s (lt_s (lt_s (lt_s (lt_s (lt_s (lt_s (lt_s (lt_s (lt_s (lt_s (lt_s (lt_s (lt_s (lt_s (lt_s (lt_s (lt_s (lt_s (lt_s (lt_s (lt_s (lt_s (lt_s (lt_s (lt_s (lt_s (lt_s (lt_s (lt_s (lt_s (lt_s (lt_s (lt_s (lt_s (lt_s (lt_s (lt_s (lt_s (lt_s (lt_s (lt_s (lt_s (lt_s (lt_s (lt_s (lt_s (lt_s (lt_s (lt_s (lt_s (lt_s (lt_s (lt_s (lt_s (lt_s (lt_s (lt_s (lt_s (lt_s (lt_s (lt_0) ?_) ?_) ?_) ?_) ?_) ?_) ?_) ?_) ?_) ?_) ?_) ?_) ?_) ?_) ?_) ?_) ?_) ?_) ?_) ?_) ?_) ?_) ?_) ?_) ?_) ?_) ?_) ?_) ?_) ?_) ?_) ?_) ?_) ?_) ?_) ?_) ?_) ?_) ?_) ?_) ?_) ?_) ?_) ?_) ?_) ?_) ?_) ?_) ?_) ?_) ?_) ?_) ?_) ?_) ?_) ?_) ?_) ?_) ?_) ?_) ?_) ?_) ?_) ?_) ?_) ?_) ?_) ?_) ?_) ?_) ?_) ?_) ?_) ?_) ?_) ?_
      · intro f w1 hS hf
        generalize hA : putAll _ _ f = aA
        have r7 : aA.eval (.tmp 7) = .pointer (some ⟨b3_2, 0, none⟩) := by rw [← hA]; exact putAll_off f 7 slotsCs7n a0 (by kernel_rfl) z7
        exact flw_val rfl rfl (.agg (encU sx).toArray) (ex_loadR 24 (.tmp 7) rfl ⟨b3_2, 0, none⟩ r7 (fun _ => by kernel_rfl) (encU sx) (by rw [encU_len]; kernel_rfl) ((HX_b3_2.out.keepB hS).part (encU sx) 0 (encU_all' sx))) hS (Flz.refl _) (updF_self _ _ _)
      · intro f w1 hS hf
        generalize hA : putAll _ _ f = aA
        have h31 : f 0 = .agg (encU sx).toArray := hf 0 (by decide)
        have r31 : aA.eval (.tmp 31) = .agg (encU sx).toArray := by rw [← hA]; exact putAll_at f 31 0 slotsCs7n a0 sbCs7n (by kernel_rfl) zsz rfl h31
        exact flw_call rfl rfl 15 #[(.tmp 31)] _ rfl #[.agg (encU sx).toArray] (by simp only [List.map_toArray, List.map_cons, List.map_nil, r31]) (fun w => by kernel_rfl) (fun v _ => v = .agg (encU (chkS sx)).toArray) (chk_any sx w1 (HL.out.keep (HB.out.trans (hS.mono HB.out.size)) HSZ.out)) (fun v w' hr hb => ⟨hS.trans (hb.mono hS.size), Flz.of hb, (updF_self _ _ _).trans hr⟩)
      · intro f w1 hS hf
        generalize hA : putAll _ _ f = aA
        have r8 : aA.eval (.tmp 8) = .pointer (some ⟨b3_3, 0, none⟩) := by rw [← hA]; exact putAll_off f 8 slotsCs7n a0 (by kernel_rfl) z8
        exact flw_val rfl rfl (.agg (encU sx).toArray) (ex_loadR 35 (.tmp 8) rfl ⟨b3_3, 0, none⟩ r8 (fun _ => by kernel_rfl) (encU sx) (by rw [encU_len]; kernel_rfl) ((HX_b3_3.out.keepB hS).part (encU sx) 0 (encU_all' sx))) hS (Flz.refl _) (updF_self _ _ _)
      · intro f w1 hS hf
        generalize hA : putAll _ _ f = aA
        have h33 : f 2 = .agg (encU sx).toArray := hf 2 (by decide)
        have r33 : aA.eval (.tmp 33) = .agg (encU sx).toArray := by rw [← hA]; exact putAll_at f 33 2 slotsCs7n a0 sbCs7n (by kernel_rfl) zsz rfl h33
        exact flw_call rfl rfl 19 #[(.tmp 33)] _ rfl #[.agg (encU sx).toArray] (by simp only [List.map_toArray, List.map_cons, List.map_nil, r33]) (fun w => by kernel_rfl) (fun v _ => v = .agg (encU (chkS sx)).toArray) (rchk_any sx w1) (fun v w' hr hb => ⟨hS.trans (hb.mono hS.size), Flz.of hb, (updF_self _ _ _).trans hr⟩)
      · intro f w1 hS hf
        generalize hA : putAll _ _ f = aA
        have h32 : f 1 = .agg (encU (chkS sx)).toArray := hf 1 (by decide)
        have r32 : aA.eval (.tmp 32) = .agg (encU (chkS sx)).toArray := by rw [← hA]; exact putAll_at f 32 1 slotsCs7n a0 sbCs7n (by kernel_rfl) zsz rfl h32
        have h34 : f 3 = .agg (encU (chkS sx)).toArray := hf 3 (by decide)
        have r34 : aA.eval (.tmp 34) = .agg (encU (chkS sx)).toArray := by rw [← hA]; exact putAll_at f 34 3 slotsCs7n a0 sbCs7n (by kernel_rfl) zsz rfl h34
        exact flw_val rfl rfl (.bool true) (Eq.trans (eql_su 35 (.tmp 32) (.tmp 34) _ rfl (chkS sx) (chkS sx) r32 r34 (by kernel_rfl) (by kernel_rfl)) (by rw [(decide_eq_true (rfl : chkS sx = chkS sx))])) hS (Flz.refl _) (updF_self _ _ _)
      · intro f w1 hS hf
        generalize hA : putAll _ _ f = aA
        have h35 : f 4 = .bool true := hf 4 (by decide)
        have r35 : aA.eval (.tmp 35) = .bool true := by rw [← hA]; exact putAll_at f 35 4 slotsCs7n a0 sbCs7n (by kernel_rfl) zsz rfl h35
        exact flw_val rfl rfl (.bool true) (ex_move (.tmp 35) rfl r35) hS (Flz.refl _) (updF_self _ _ _)
      · intro f w1 hS hf
        generalize hA : putAll _ _ f = aA
        have g36 : f 5 = .bool true := hf 5 (by decide)
        have t36 : aA.tmps[36]? = some (.bool true) := by rw [← hA]; exact putAll_g f 36 5 slotsCs7n a0 sbCs7n (by kernel_rfl) zsz rfl g36
        have r3 : aA.eval (.tmp 3) = .pointer (some ⟨g1, 0, none⟩) := by rw [← hA]; exact putAll_off f 3 slotsCs7n a0 (by kernel_rfl) z3
        exact flw_val rfl ((wanted_of rfl 36 rfl t36).trans rfl) (aggC a) (ex_loadR 28 (.tmp 3) rfl ⟨g1, 0, none⟩ r3 (fun _ => by kernel_rfl) (encC a) (by rw [encC_len]; kernel_rfl) ((HX1.out.keepB hS).part (encC a) 0 (encC_all a))) hS (Flz.refl _) (updF_self _ _ _)
      · intro f w1 hS hf
        generalize hA : putAll _ _ f = aA
        have g36 : f 5 = .bool true := hf 5 (by decide)
        have t36 : aA.tmps[36]? = some (.bool true) := by rw [← hA]; exact putAll_g f 36 5 slotsCs7n a0 sbCs7n (by kernel_rfl) zsz rfl g36
        have r7 : aA.eval (.tmp 7) = .pointer (some ⟨b3_2, 0, none⟩) := by rw [← hA]; exact putAll_off f 7 slotsCs7n a0 (by kernel_rfl) z7
        exact flw_val rfl ((wanted_of rfl 36 rfl t36).trans rfl) (.agg (encU sx).toArray) (ex_loadR 24 (.tmp 7) rfl ⟨b3_2, 0, none⟩ r7 (fun _ => by kernel_rfl) (encU sx) (by rw [encU_len]; kernel_rfl) ((HX_b3_2.out.keepB hS).part (encU sx) 0 (encU_all' sx))) hS (Flz.refl _) (updF_self _ _ _)
      · intro f w1 hS hf
        generalize hA : putAll _ _ f = aA
        have g36 : f 5 = .bool true := hf 5 (by decide)
        have t36 : aA.tmps[36]? = some (.bool true) := by rw [← hA]; exact putAll_g f 36 5 slotsCs7n a0 sbCs7n (by kernel_rfl) zsz rfl g36
        have h37 : f 6 = aggC a := hf 6 (by decide)
        have r37 : aA.eval (.tmp 37) = aggC a := by rw [← hA]; exact putAll_at f 37 6 slotsCs7n a0 sbCs7n (by kernel_rfl) zsz rfl h37
        have h38 : f 7 = .agg (encU sx).toArray := hf 7 (by decide)
        have r38 : aA.eval (.tmp 38) = .agg (encU sx).toArray := by rw [← hA]; exact putAll_at f 38 7 slotsCs7n a0 sbCs7n (by kernel_rfl) zsz rfl h38
        exact flw_call rfl ((wanted_of rfl 36 rfl t36).trans rfl) 11 #[(.tmp 37), (.tmp 38)] _ rfl #[aggC a, .agg (encU sx).toArray] (by simp only [List.map_toArray, List.map_cons, List.map_nil, r37, r38]) (fun w => by kernel_rfl) (fun v _ => v = aggC (putC a sx)) (put_any a sx w1 (HL.out.keep (HB.out.trans (hS.mono HB.out.size)) HSZ.out)) (fun v w' hr hb => ⟨hS.trans (hb.mono hS.size), Flz.of hb, (updF_self _ _ _).trans hr⟩)
      · intro f w1 hS hf
        generalize hA : putAll _ _ f = aA
        have g36 : f 5 = .bool true := hf 5 (by decide)
        have t36 : aA.tmps[36]? = some (.bool true) := by rw [← hA]; exact putAll_g f 36 5 slotsCs7n a0 sbCs7n (by kernel_rfl) zsz rfl g36
        have h39 : f 8 = aggC (putC a sx) := hf 8 (by decide)
        have r39 : aA.eval (.tmp 39) = aggC (putC a sx) := by rw [← hA]; exact putAll_at f 39 8 slotsCs7n a0 sbCs7n (by kernel_rfl) zsz rfl h39
        exact flw_call rfl ((wanted_of rfl 36 rfl t36).trans rfl) 17 #[(.tmp 39)] _ rfl #[aggC (putC a sx)] (by simp only [List.map_toArray, List.map_cons, List.map_nil, r39]) (fun w => by kernel_rfl) (fun v _ => v = aggC (putC a sx)) (cellOf_any (putC a sx) w1) (fun v w' hr hb => ⟨hS.trans (hb.mono hS.size), Flz.of hb, (updF_self _ _ _).trans hr⟩)
      · intro f w1 hS hf
        generalize hA : putAll _ _ f = aA
        have g36 : f 5 = .bool true := hf 5 (by decide)
        have t36 : aA.tmps[36]? = some (.bool true) := by rw [← hA]; exact putAll_g f 36 5 slotsCs7n a0 sbCs7n (by kernel_rfl) zsz rfl g36
        have r9 : aA.eval (.tmp 9) = .pointer (some ⟨b4_4, 0, none⟩) := by rw [← hA]; exact putAll_off f 9 slotsCs7n a0 (by kernel_rfl) z9
        exact flw_val rfl ((wanted_of rfl 36 rfl t36).trans rfl) (aggC a) (ex_loadR 37 (.tmp 9) rfl ⟨b4_4, 0, none⟩ r9 (fun _ => by kernel_rfl) (encC a) (by rw [encC_len]; kernel_rfl) ((HX_b4_4.out.keepB hS).part (encC a) 0 (encC_all a))) hS (Flz.refl _) (updF_self _ _ _)
      · intro f w1 hS hf
        generalize hA : putAll _ _ f = aA
        have g36 : f 5 = .bool true := hf 5 (by decide)
        have t36 : aA.tmps[36]? = some (.bool true) := by rw [← hA]; exact putAll_g f 36 5 slotsCs7n a0 sbCs7n (by kernel_rfl) zsz rfl g36
        have r8 : aA.eval (.tmp 8) = .pointer (some ⟨b3_3, 0, none⟩) := by rw [← hA]; exact putAll_off f 8 slotsCs7n a0 (by kernel_rfl) z8
        exact flw_val rfl ((wanted_of rfl 36 rfl t36).trans rfl) (.agg (encU sx).toArray) (ex_loadR 35 (.tmp 8) rfl ⟨b3_3, 0, none⟩ r8 (fun _ => by kernel_rfl) (encU sx) (by rw [encU_len]; kernel_rfl) ((HX_b3_3.out.keepB hS).part (encU sx) 0 (encU_all' sx))) hS (Flz.refl _) (updF_self _ _ _)
      · intro f w1 hS hf
        generalize hA : putAll _ _ f = aA
        have g36 : f 5 = .bool true := hf 5 (by decide)
        have t36 : aA.tmps[36]? = some (.bool true) := by rw [← hA]; exact putAll_g f 36 5 slotsCs7n a0 sbCs7n (by kernel_rfl) zsz rfl g36
        have h41 : f 10 = aggC a := hf 10 (by decide)
        have r41 : aA.eval (.tmp 41) = aggC a := by rw [← hA]; exact putAll_at f 41 10 slotsCs7n a0 sbCs7n (by kernel_rfl) zsz rfl h41
        have h42 : f 11 = .agg (encU sx).toArray := hf 11 (by decide)
        have r42 : aA.eval (.tmp 42) = .agg (encU sx).toArray := by rw [← hA]; exact putAll_at f 42 11 slotsCs7n a0 sbCs7n (by kernel_rfl) zsz rfl h42
        exact flw_call rfl ((wanted_of rfl 36 rfl t36).trans rfl) 20 #[(.tmp 41), (.tmp 42), _] _ rfl #[aggC a, .agg (encU sx).toArray, .int .i64 1] (by simp only [List.map_toArray, List.map_cons, List.map_nil, r41, r42]; rfl) (fun w => by kernel_rfl) (fun v _ => v = aggC (withC a 1 sx (chkS sx))) (rput_any a sx 1 w1) (fun v w' hr hb => ⟨hS.trans (hb.mono hS.size), Flz.of hb, (updF_self _ _ _).trans hr⟩)
      · intro f w1 hS hf
        generalize hA : putAll _ _ f = aA
        have g36 : f 5 = .bool true := hf 5 (by decide)
        have t36 : aA.tmps[36]? = some (.bool true) := by rw [← hA]; exact putAll_g f 36 5 slotsCs7n a0 sbCs7n (by kernel_rfl) zsz rfl g36
        have h40 : f 9 = aggC (putC a sx) := hf 9 (by decide)
        have r40 : aA.eval (.tmp 40) = aggC (putC a sx) := by rw [← hA]; exact putAll_at f 40 9 slotsCs7n a0 sbCs7n (by kernel_rfl) zsz rfl h40
        have h43 : f 12 = aggC (withC a 1 sx (chkS sx)) := hf 12 (by decide)
        have r43 : aA.eval (.tmp 43) = aggC (withC a 1 sx (chkS sx)) := by rw [← hA]; exact putAll_at f 43 12 slotsCs7n a0 sbCs7n (by kernel_rfl) zsz rfl h43
        exact flw_val rfl ((wanted_of rfl 36 rfl t36).trans rfl) (.bool true) (Eq.trans (eqlR (.tmp 40) (.tmp 43) _ rfl (putC a sx) (withC a 1 sx (chkS sx)) r40 r43) (by rw [(cs_put a sx)])) hS (Flz.refl _) (updF_self _ _ _)
      · intro f w1 hS hf
        generalize hA : putAll _ _ f = aA
        have h36 : f 5 = .bool true := hf 5 (by decide)
        have r36 : aA.eval (.tmp 36) = .bool true := by rw [← hA]; exact putAll_at f 36 5 slotsCs7n a0 sbCs7n (by kernel_rfl) zsz rfl h36
        have h44 : f 13 = .bool true := hf 13 (by decide)
        have r44 : aA.eval (.tmp 44) = .bool true := by rw [← hA]; exact putAll_at f 44 13 slotsCs7n a0 sbCs7n (by kernel_rfl) zsz rfl h44
        exact flw_val rfl rfl (.bool true) (ex_pick (.tmp 36) (.tmp 44) _ rfl true r36 ((if_pos rfl).trans r44)) hS (Flz.refl _) (updF_self _ _ _)
      · intro f w1 hS hf
        generalize hA : putAll _ _ f = aA
        have h45 : f 14 = .bool true := hf 14 (by decide)
        have r45 : aA.eval (.tmp 45) = .bool true := by rw [← hA]; exact putAll_at f 45 14 slotsCs7n a0 sbCs7n (by kernel_rfl) zsz rfl h45
        exact flw_val rfl rfl (.bool true) (ex_move (.tmp 45) rfl r45) hS (Flz.refl _) (updF_self _ _ _)
      · intro f w1 hS hf
        generalize hA : putAll _ _ f = aA
        have g46 : f 15 = .bool true := hf 15 (by decide)
        have t46 : aA.tmps[46]? = some (.bool true) := by rw [← hA]; exact putAll_g f 46 15 slotsCs7n a0 sbCs7n (by kernel_rfl) zsz rfl g46
        have r3 : aA.eval (.tmp 3) = .pointer (some ⟨g1, 0, none⟩) := by rw [← hA]; exact putAll_off f 3 slotsCs7n a0 (by kernel_rfl) z3
        exact flw_val rfl ((wanted_of rfl 46 rfl t46).trans rfl) (aggC a) (ex_loadR 28 (.tmp 3) rfl ⟨g1, 0, none⟩ r3 (fun _ => by kernel_rfl) (encC a) (by rw [encC_len]; kernel_rfl) ((HX1.out.keepB hS).part (encC a) 0 (encC_all a))) hS (Flz.refl _) (updF_self _ _ _)
      · intro f w1 hS hf
        generalize hA : putAll _ _ f = aA
        have g46 : f 15 = .bool true := hf 15 (by decide)
        have t46 : aA.tmps[46]? = some (.bool true) := by rw [← hA]; exact putAll_g f 46 15 slotsCs7n a0 sbCs7n (by kernel_rfl) zsz rfl g46
        have r7 : aA.eval (.tmp 7) = .pointer (some ⟨b3_2, 0, none⟩) := by rw [← hA]; exact putAll_off f 7 slotsCs7n a0 (by kernel_rfl) z7
        exact flw_val rfl ((wanted_of rfl 46 rfl t46).trans rfl) (.agg (encU sx).toArray) (ex_loadR 24 (.tmp 7) rfl ⟨b3_2, 0, none⟩ r7 (fun _ => by kernel_rfl) (encU sx) (by rw [encU_len]; kernel_rfl) ((HX_b3_2.out.keepB hS).part (encU sx) 0 (encU_all' sx))) hS (Flz.refl _) (updF_self _ _ _)
      · intro f w1 hS hf
        generalize hA : putAll _ _ f = aA
        have g46 : f 15 = .bool true := hf 15 (by decide)
        have t46 : aA.tmps[46]? = some (.bool true) := by rw [← hA]; exact putAll_g f 46 15 slotsCs7n a0 sbCs7n (by kernel_rfl) zsz rfl g46
        have h47 : f 16 = aggC a := hf 16 (by decide)
        have r47 : aA.eval (.tmp 47) = aggC a := by rw [← hA]; exact putAll_at f 47 16 slotsCs7n a0 sbCs7n (by kernel_rfl) zsz rfl h47
        have h48 : f 17 = .agg (encU sx).toArray := hf 17 (by decide)
        have r48 : aA.eval (.tmp 48) = .agg (encU sx).toArray := by rw [← hA]; exact putAll_at f 48 17 slotsCs7n a0 sbCs7n (by kernel_rfl) zsz rfl h48
        exact flw_call rfl ((wanted_of rfl 46 rfl t46).trans rfl) 14 #[(.tmp 47), (.tmp 48)] _ rfl #[aggC a, .agg (encU sx).toArray] (by simp only [List.map_toArray, List.map_cons, List.map_nil, r47, r48]) (fun w => by kernel_rfl) (fun v _ => v = aggC (takeC a sx)) (take_any a sx w1 (HL.out.keep (HB.out.trans (hS.mono HB.out.size)) HSZ.out)) (fun v w' hr hb => ⟨hS.trans (hb.mono hS.size), Flz.of hb, (updF_self _ _ _).trans hr⟩)
      · intro f w1 hS hf
        generalize hA : putAll _ _ f = aA
        have g46 : f 15 = .bool true := hf 15 (by decide)
        have t46 : aA.tmps[46]? = some (.bool true) := by rw [← hA]; exact putAll_g f 46 15 slotsCs7n a0 sbCs7n (by kernel_rfl) zsz rfl g46
        have h49 : f 18 = aggC (takeC a sx) := hf 18 (by decide)
        have r49 : aA.eval (.tmp 49) = aggC (takeC a sx) := by rw [← hA]; exact putAll_at f 49 18 slotsCs7n a0 sbCs7n (by kernel_rfl) zsz rfl h49
        exact flw_call rfl ((wanted_of rfl 46 rfl t46).trans rfl) 17 #[(.tmp 49)] _ rfl #[aggC (takeC a sx)] (by simp only [List.map_toArray, List.map_cons, List.map_nil, r49]) (fun w => by kernel_rfl) (fun v _ => v = aggC (takeC a sx)) (cellOf_any (takeC a sx) w1) (fun v w' hr hb => ⟨hS.trans (hb.mono hS.size), Flz.of hb, (updF_self _ _ _).trans hr⟩)
      · intro f w1 hS hf
        generalize hA : putAll _ _ f = aA
        have g46 : f 15 = .bool true := hf 15 (by decide)
        have t46 : aA.tmps[46]? = some (.bool true) := by rw [← hA]; exact putAll_g f 46 15 slotsCs7n a0 sbCs7n (by kernel_rfl) zsz rfl g46
        have r9 : aA.eval (.tmp 9) = .pointer (some ⟨b4_4, 0, none⟩) := by rw [← hA]; exact putAll_off f 9 slotsCs7n a0 (by kernel_rfl) z9
        exact flw_val rfl ((wanted_of rfl 46 rfl t46).trans rfl) (aggC a) (ex_loadR 37 (.tmp 9) rfl ⟨b4_4, 0, none⟩ r9 (fun _ => by kernel_rfl) (encC a) (by rw [encC_len]; kernel_rfl) ((HX_b4_4.out.keepB hS).part (encC a) 0 (encC_all a))) hS (Flz.refl _) (updF_self _ _ _)
      · intro f w1 hS hf
        generalize hA : putAll _ _ f = aA
        have g46 : f 15 = .bool true := hf 15 (by decide)
        have t46 : aA.tmps[46]? = some (.bool true) := by rw [← hA]; exact putAll_g f 46 15 slotsCs7n a0 sbCs7n (by kernel_rfl) zsz rfl g46
        have r8 : aA.eval (.tmp 8) = .pointer (some ⟨b3_3, 0, none⟩) := by rw [← hA]; exact putAll_off f 8 slotsCs7n a0 (by kernel_rfl) z8
        exact flw_val rfl ((wanted_of rfl 46 rfl t46).trans rfl) (.agg (encU sx).toArray) (ex_loadR 35 (.tmp 8) rfl ⟨b3_3, 0, none⟩ r8 (fun _ => by kernel_rfl) (encU sx) (by rw [encU_len]; kernel_rfl) ((HX_b3_3.out.keepB hS).part (encU sx) 0 (encU_all' sx))) hS (Flz.refl _) (updF_self _ _ _)
      · intro f w1 hS hf
        generalize hA : putAll _ _ f = aA
        have g46 : f 15 = .bool true := hf 15 (by decide)
        have t46 : aA.tmps[46]? = some (.bool true) := by rw [← hA]; exact putAll_g f 46 15 slotsCs7n a0 sbCs7n (by kernel_rfl) zsz rfl g46
        have h51 : f 20 = aggC a := hf 20 (by decide)
        have r51 : aA.eval (.tmp 51) = aggC a := by rw [← hA]; exact putAll_at f 51 20 slotsCs7n a0 sbCs7n (by kernel_rfl) zsz rfl h51
        have h52 : f 21 = .agg (encU sx).toArray := hf 21 (by decide)
        have r52 : aA.eval (.tmp 52) = .agg (encU sx).toArray := by rw [← hA]; exact putAll_at f 52 21 slotsCs7n a0 sbCs7n (by kernel_rfl) zsz rfl h52
        exact flw_call rfl ((wanted_of rfl 46 rfl t46).trans rfl) 20 #[(.tmp 51), (.tmp 52), _] _ rfl #[aggC a, .agg (encU sx).toArray, .int .i64 ((-1))] (by simp only [List.map_toArray, List.map_cons, List.map_nil, r51, r52]; rfl) (fun w => by kernel_rfl) (fun v _ => v = aggC (withC a (-1) sx (chkS sx))) (rput_any a sx (-1) w1) (fun v w' hr hb => ⟨hS.trans (hb.mono hS.size), Flz.of hb, (updF_self _ _ _).trans hr⟩)
      · intro f w1 hS hf
        generalize hA : putAll _ _ f = aA
        have g46 : f 15 = .bool true := hf 15 (by decide)
        have t46 : aA.tmps[46]? = some (.bool true) := by rw [← hA]; exact putAll_g f 46 15 slotsCs7n a0 sbCs7n (by kernel_rfl) zsz rfl g46
        have h50 : f 19 = aggC (takeC a sx) := hf 19 (by decide)
        have r50 : aA.eval (.tmp 50) = aggC (takeC a sx) := by rw [← hA]; exact putAll_at f 50 19 slotsCs7n a0 sbCs7n (by kernel_rfl) zsz rfl h50
        have h53 : f 22 = aggC (withC a (-1) sx (chkS sx)) := hf 22 (by decide)
        have r53 : aA.eval (.tmp 53) = aggC (withC a (-1) sx (chkS sx)) := by rw [← hA]; exact putAll_at f 53 22 slotsCs7n a0 sbCs7n (by kernel_rfl) zsz rfl h53
        exact flw_val rfl ((wanted_of rfl 46 rfl t46).trans rfl) (.bool true) (Eq.trans (eqlR (.tmp 50) (.tmp 53) _ rfl (takeC a sx) (withC a (-1) sx (chkS sx)) r50 r53) (by rw [(cs_take a sx)])) hS (Flz.refl _) (updF_self _ _ _)
      · intro f w1 hS hf
        generalize hA : putAll _ _ f = aA
        have h46 : f 15 = .bool true := hf 15 (by decide)
        have r46 : aA.eval (.tmp 46) = .bool true := by rw [← hA]; exact putAll_at f 46 15 slotsCs7n a0 sbCs7n (by kernel_rfl) zsz rfl h46
        have h54 : f 23 = .bool true := hf 23 (by decide)
        have r54 : aA.eval (.tmp 54) = .bool true := by rw [← hA]; exact putAll_at f 54 23 slotsCs7n a0 sbCs7n (by kernel_rfl) zsz rfl h54
        exact flw_val rfl rfl (.bool true) (ex_pick (.tmp 46) (.tmp 54) _ rfl true r46 ((if_pos rfl).trans r54)) hS (Flz.refl _) (updF_self _ _ _)
      · intro f w1 hS hf
        generalize hA : putAll _ _ f = aA
        have h55 : f 24 = .bool true := hf 24 (by decide)
        have r55 : aA.eval (.tmp 55) = .bool true := by rw [← hA]; exact putAll_at f 55 24 slotsCs7n a0 sbCs7n (by kernel_rfl) zsz rfl h55
        exact flw_val rfl rfl (.bool true) (ex_move (.tmp 55) rfl r55) hS (Flz.refl _) (updF_self _ _ _)
      · intro f w1 hS hf
        generalize hA : putAll _ _ f = aA
        have g56 : f 25 = .bool true := hf 25 (by decide)
        have t56 : aA.tmps[56]? = some (.bool true) := by rw [← hA]; exact putAll_g f 56 25 slotsCs7n a0 sbCs7n (by kernel_rfl) zsz rfl g56
        have r3 : aA.eval (.tmp 3) = .pointer (some ⟨g1, 0, none⟩) := by rw [← hA]; exact putAll_off f 3 slotsCs7n a0 (by kernel_rfl) z3
        exact flw_val rfl ((wanted_of rfl 56 rfl t56).trans rfl) (aggC a) (ex_loadR 28 (.tmp 3) rfl ⟨g1, 0, none⟩ r3 (fun _ => by kernel_rfl) (encC a) (by rw [encC_len]; kernel_rfl) ((HX1.out.keepB hS).part (encC a) 0 (encC_all a))) hS (Flz.refl _) (updF_self _ _ _)
      · intro f w1 hS hf
        generalize hA : putAll _ _ f = aA
        have g56 : f 25 = .bool true := hf 25 (by decide)
        have t56 : aA.tmps[56]? = some (.bool true) := by rw [← hA]; exact putAll_g f 56 25 slotsCs7n a0 sbCs7n (by kernel_rfl) zsz rfl g56
        have r4 : aA.eval (.tmp 4) = .pointer (some ⟨g2, 0, none⟩) := by rw [← hA]; exact putAll_off f 4 slotsCs7n a0 (by kernel_rfl) z4
        exact flw_val rfl ((wanted_of rfl 56 rfl t56).trans rfl) (aggC b) (ex_loadR 28 (.tmp 4) rfl ⟨g2, 0, none⟩ r4 (fun _ => by kernel_rfl) (encC b) (by rw [encC_len]; kernel_rfl) ((HX2.out.keepB hS).part (encC b) 0 (encC_all b))) hS (Flz.refl _) (updF_self _ _ _)
      · intro f w1 hS hf
        generalize hA : putAll _ _ f = aA
        have g56 : f 25 = .bool true := hf 25 (by decide)
        have t56 : aA.tmps[56]? = some (.bool true) := by rw [← hA]; exact putAll_g f 56 25 slotsCs7n a0 sbCs7n (by kernel_rfl) zsz rfl g56
        have h57 : f 26 = aggC a := hf 26 (by decide)
        have r57 : aA.eval (.tmp 57) = aggC a := by rw [← hA]; exact putAll_at f 57 26 slotsCs7n a0 sbCs7n (by kernel_rfl) zsz rfl h57
        have h58 : f 27 = aggC b := hf 27 (by decide)
        have r58 : aA.eval (.tmp 58) = aggC b := by rw [← hA]; exact putAll_at f 58 27 slotsCs7n a0 sbCs7n (by kernel_rfl) zsz rfl h58
        exact flw_call rfl ((wanted_of rfl 56 rfl t56).trans rfl) 13 #[(.tmp 57), (.tmp 58)] _ rfl #[aggC a, aggC b] (by simp only [List.map_toArray, List.map_cons, List.map_nil, r57, r58]) (fun w => by kernel_rfl) (fun v _ => v = aggC (minusC a b)) (minus_any a b w1) (fun v w' hr hb => ⟨hS.trans (hb.mono hS.size), Flz.of hb, (updF_self _ _ _).trans hr⟩)
      · intro f w1 hS hf
        generalize hA : putAll _ _ f = aA
        have g56 : f 25 = .bool true := hf 25 (by decide)
        have t56 : aA.tmps[56]? = some (.bool true) := by rw [← hA]; exact putAll_g f 56 25 slotsCs7n a0 sbCs7n (by kernel_rfl) zsz rfl g56
        have h59 : f 28 = aggC (minusC a b) := hf 28 (by decide)
        have r59 : aA.eval (.tmp 59) = aggC (minusC a b) := by rw [← hA]; exact putAll_at f 59 28 slotsCs7n a0 sbCs7n (by kernel_rfl) zsz rfl h59
        exact flw_call rfl ((wanted_of rfl 56 rfl t56).trans rfl) 17 #[(.tmp 59)] _ rfl #[aggC (minusC a b)] (by simp only [List.map_toArray, List.map_cons, List.map_nil, r59]) (fun w => by kernel_rfl) (fun v _ => v = aggC (minusC a b)) (cellOf_any (minusC a b) w1) (fun v w' hr hb => ⟨hS.trans (hb.mono hS.size), Flz.of hb, (updF_self _ _ _).trans hr⟩)
      · intro f w1 hS hf
        generalize hA : putAll _ _ f = aA
        have g56 : f 25 = .bool true := hf 25 (by decide)
        have t56 : aA.tmps[56]? = some (.bool true) := by rw [← hA]; exact putAll_g f 56 25 slotsCs7n a0 sbCs7n (by kernel_rfl) zsz rfl g56
        have r9 : aA.eval (.tmp 9) = .pointer (some ⟨b4_4, 0, none⟩) := by rw [← hA]; exact putAll_off f 9 slotsCs7n a0 (by kernel_rfl) z9
        exact flw_val rfl ((wanted_of rfl 56 rfl t56).trans rfl) (aggC a) (ex_loadR 37 (.tmp 9) rfl ⟨b4_4, 0, none⟩ r9 (fun _ => by kernel_rfl) (encC a) (by rw [encC_len]; kernel_rfl) ((HX_b4_4.out.keepB hS).part (encC a) 0 (encC_all a))) hS (Flz.refl _) (updF_self _ _ _)
      · intro f w1 hS hf
        generalize hA : putAll _ _ f = aA
        have g56 : f 25 = .bool true := hf 25 (by decide)
        have t56 : aA.tmps[56]? = some (.bool true) := by rw [← hA]; exact putAll_g f 56 25 slotsCs7n a0 sbCs7n (by kernel_rfl) zsz rfl g56
        have r10 : aA.eval (.tmp 10) = .pointer (some ⟨b4_5, 0, none⟩) := by rw [← hA]; exact putAll_off f 10 slotsCs7n a0 (by kernel_rfl) z10
        exact flw_val rfl ((wanted_of rfl 56 rfl t56).trans rfl) (aggC b) (ex_loadR 37 (.tmp 10) rfl ⟨b4_5, 0, none⟩ r10 (fun _ => by kernel_rfl) (encC b) (by rw [encC_len]; kernel_rfl) ((HX_b4_5.out.keepB hS).part (encC b) 0 (encC_all b))) hS (Flz.refl _) (updF_self _ _ _)
      · intro f w1 hS hf
        generalize hA : putAll _ _ f = aA
        have g56 : f 25 = .bool true := hf 25 (by decide)
        have t56 : aA.tmps[56]? = some (.bool true) := by rw [← hA]; exact putAll_g f 56 25 slotsCs7n a0 sbCs7n (by kernel_rfl) zsz rfl g56
        have h61 : f 30 = aggC a := hf 30 (by decide)
        have r61 : aA.eval (.tmp 61) = aggC a := by rw [← hA]; exact putAll_at f 61 30 slotsCs7n a0 sbCs7n (by kernel_rfl) zsz rfl h61
        have h62 : f 31 = aggC b := hf 31 (by decide)
        have r62 : aA.eval (.tmp 62) = aggC b := by rw [← hA]; exact putAll_at f 62 31 slotsCs7n a0 sbCs7n (by kernel_rfl) zsz rfl h62
        exact flw_call rfl ((wanted_of rfl 56 rfl t56).trans rfl) 21 #[(.tmp 61), (.tmp 62)] _ rfl #[aggC a, aggC b] (by simp only [List.map_toArray, List.map_cons, List.map_nil, r61, r62]) (fun w => by kernel_rfl) (fun v _ => v = aggC (minusC a b)) (rminus_any a b w1) (fun v w' hr hb => ⟨hS.trans (hb.mono hS.size), Flz.of hb, (updF_self _ _ _).trans hr⟩)
      · intro f w1 hS hf
        generalize hA : putAll _ _ f = aA
        have g56 : f 25 = .bool true := hf 25 (by decide)
        have t56 : aA.tmps[56]? = some (.bool true) := by rw [← hA]; exact putAll_g f 56 25 slotsCs7n a0 sbCs7n (by kernel_rfl) zsz rfl g56
        have h60 : f 29 = aggC (minusC a b) := hf 29 (by decide)
        have r60 : aA.eval (.tmp 60) = aggC (minusC a b) := by rw [← hA]; exact putAll_at f 60 29 slotsCs7n a0 sbCs7n (by kernel_rfl) zsz rfl h60
        have h63 : f 32 = aggC (minusC a b) := hf 32 (by decide)
        have r63 : aA.eval (.tmp 63) = aggC (minusC a b) := by rw [← hA]; exact putAll_at f 63 32 slotsCs7n a0 sbCs7n (by kernel_rfl) zsz rfl h63
        exact flw_val rfl ((wanted_of rfl 56 rfl t56).trans rfl) (.bool true) (Eq.trans (eqlR (.tmp 60) (.tmp 63) _ rfl (minusC a b) (minusC a b) r60 r63) (by rw [(decide_eq_true (rfl : minusC a b = minusC a b))])) hS (Flz.refl _) (updF_self _ _ _)
      · intro f w1 hS hf
        generalize hA : putAll _ _ f = aA
        have h56 : f 25 = .bool true := hf 25 (by decide)
        have r56 : aA.eval (.tmp 56) = .bool true := by rw [← hA]; exact putAll_at f 56 25 slotsCs7n a0 sbCs7n (by kernel_rfl) zsz rfl h56
        have h64 : f 33 = .bool true := hf 33 (by decide)
        have r64 : aA.eval (.tmp 64) = .bool true := by rw [← hA]; exact putAll_at f 64 33 slotsCs7n a0 sbCs7n (by kernel_rfl) zsz rfl h64
        exact flw_val rfl rfl (.bool true) (ex_pick (.tmp 56) (.tmp 64) _ rfl true r56 ((if_pos rfl).trans r64)) hS (Flz.refl _) (updF_self _ _ _)
      · intro f w1 hS hf
        generalize hA : putAll _ _ f = aA
        have h65 : f 34 = .bool true := hf 34 (by decide)
        have r65 : aA.eval (.tmp 65) = .bool true := by rw [← hA]; exact putAll_at f 65 34 slotsCs7n a0 sbCs7n (by kernel_rfl) zsz rfl h65
        exact flw_val rfl rfl (.bool true) (ex_move (.tmp 65) rfl r65) hS (Flz.refl _) (updF_self _ _ _)
      · intro f w1 hS hf
        generalize hA : putAll _ _ f = aA
        have g66 : f 35 = .bool true := hf 35 (by decide)
        have t66 : aA.tmps[66]? = some (.bool true) := by rw [← hA]; exact putAll_g f 66 35 slotsCs7n a0 sbCs7n (by kernel_rfl) zsz rfl g66
        have r13 : aA.eval (.tmp 13) = .bool false := by rw [← hA]; exact putAll_off f 13 slotsCs7n a0 (by kernel_rfl) z13
        exact flw_val rfl ((wanted_of rfl 66 rfl t66).trans rfl) (.bool false) (ex_move (.tmp 13) rfl r13) hS (Flz.refl _) (updF_self _ _ _)
      · intro f w1 hS hf
        generalize hA : putAll _ _ f = aA
        have g66 : f 35 = .bool true := hf 35 (by decide)
        have t66 : aA.tmps[66]? = some (.bool true) := by rw [← hA]; exact putAll_g f 66 35 slotsCs7n a0 sbCs7n (by kernel_rfl) zsz rfl g66
        have r14 : aA.eval (.tmp 14) = .bool false := by rw [← hA]; exact putAll_off f 14 slotsCs7n a0 (by kernel_rfl) z14
        exact flw_val rfl ((wanted_of rfl 66 rfl t66).trans rfl) (.bool false) (ex_move (.tmp 14) rfl r14) hS (Flz.refl _) (updF_self _ _ _)
      · intro f w1 hS hf
        generalize hA : putAll _ _ f = aA
        have g66 : f 35 = .bool true := hf 35 (by decide)
        have t66 : aA.tmps[66]? = some (.bool true) := by rw [← hA]; exact putAll_g f 66 35 slotsCs7n a0 sbCs7n (by kernel_rfl) zsz rfl g66
        have h67 : f 36 = .bool false := hf 36 (by decide)
        have r67 : aA.eval (.tmp 67) = .bool false := by rw [← hA]; exact putAll_at f 67 36 slotsCs7n a0 sbCs7n (by kernel_rfl) zsz rfl h67
        have h68 : f 37 = .bool false := hf 37 (by decide)
        have r68 : aA.eval (.tmp 68) = .bool false := by rw [← hA]; exact putAll_at f 68 37 slotsCs7n a0 sbCs7n (by kernel_rfl) zsz rfl h68
        exact flw_val rfl ((wanted_of rfl 66 rfl t66).trans rfl) (.bool true) (ex_eqB _ _ (.tmp 67) (.tmp 68) rfl (by kernel_rfl) false false r67 r68) hS (Flz.refl _) (updF_self _ _ _)
      · intro f w1 hS hf
        generalize hA : putAll _ _ f = aA
        have h66 : f 35 = .bool true := hf 35 (by decide)
        have r66 : aA.eval (.tmp 66) = .bool true := by rw [← hA]; exact putAll_at f 66 35 slotsCs7n a0 sbCs7n (by kernel_rfl) zsz rfl h66
        have h69 : f 38 = .bool true := hf 38 (by decide)
        have r69 : aA.eval (.tmp 69) = .bool true := by rw [← hA]; exact putAll_at f 69 38 slotsCs7n a0 sbCs7n (by kernel_rfl) zsz rfl h69
        exact flw_val rfl rfl (.bool true) (ex_pick (.tmp 66) (.tmp 69) _ rfl true r66 ((if_pos rfl).trans r69)) hS (Flz.refl _) (updF_self _ _ _)
      · intro f w1 hS hf
        generalize hA : putAll _ _ f = aA
        have h70 : f 39 = .bool true := hf 39 (by decide)
        have r70 : aA.eval (.tmp 70) = .bool true := by rw [← hA]; exact putAll_at f 70 39 slotsCs7n a0 sbCs7n (by kernel_rfl) zsz rfl h70
        exact flw_val rfl rfl (.bool true) (ex_move (.tmp 70) rfl r70) hS (Flz.refl _) (updF_self _ _ _)
      · intro f w1 hS hf
        generalize hA : putAll _ _ f = aA
        have g71 : f 40 = .bool true := hf 40 (by decide)
        have t71 : aA.tmps[71]? = some (.bool true) := by rw [← hA]; exact putAll_g f 71 40 slotsCs7n a0 sbCs7n (by kernel_rfl) zsz rfl g71
        have r12 : aA.eval (.tmp 12) = .bool false := by rw [← hA]; exact putAll_off f 12 slotsCs7n a0 (by kernel_rfl) z12
        exact flw_val rfl ((wanted_of rfl 71 rfl t71).trans rfl) (.bool false) (ex_move (.tmp 12) rfl r12) hS (Flz.refl _) (updF_self _ _ _)
      · intro f w1 hS hf
        generalize hA : putAll _ _ f = aA
        have g71 : f 40 = .bool true := hf 40 (by decide)
        have t71 : aA.tmps[71]? = some (.bool true) := by rw [← hA]; exact putAll_g f 71 40 slotsCs7n a0 sbCs7n (by kernel_rfl) zsz rfl g71
        have r14 : aA.eval (.tmp 14) = .bool false := by rw [← hA]; exact putAll_off f 14 slotsCs7n a0 (by kernel_rfl) z14
        exact flw_val rfl ((wanted_of rfl 71 rfl t71).trans rfl) (.bool false) (ex_move (.tmp 14) rfl r14) hS (Flz.refl _) (updF_self _ _ _)
      · intro f w1 hS hf
        generalize hA : putAll _ _ f = aA
        have g71 : f 40 = .bool true := hf 40 (by decide)
        have t71 : aA.tmps[71]? = some (.bool true) := by rw [← hA]; exact putAll_g f 71 40 slotsCs7n a0 sbCs7n (by kernel_rfl) zsz rfl g71
        have h73 : f 42 = .bool false := hf 42 (by decide)
        have r73 : aA.eval (.tmp 73) = .bool false := by rw [← hA]; exact putAll_at f 73 42 slotsCs7n a0 sbCs7n (by kernel_rfl) zsz rfl h73
        exact flw_val rfl ((wanted_of rfl 71 rfl t71).trans rfl) (.bool false) (ex_move (.tmp 73) rfl r73) hS (Flz.refl _) (updF_self _ _ _)
      · intro f w1 hS hf
        generalize hA : putAll _ _ f = aA
        have g74 : f 43 = .bool false := hf 43 (by decide)
        have t74 : aA.tmps[74]? = some (.bool false) := by rw [← hA]; exact putAll_g f 74 43 slotsCs7n a0 sbCs7n (by kernel_rfl) zsz rfl g74
        exact flw_skip rfl ((wanted_of rfl 74 rfl t74).trans rfl) hS (Flz.refl _) (updF_self _ _ _)
      · intro f w1 hS hf
        generalize hA : putAll _ _ f = aA
        have g74 : f 43 = .bool false := hf 43 (by decide)
        have t74 : aA.tmps[74]? = some (.bool false) := by rw [← hA]; exact putAll_g f 74 43 slotsCs7n a0 sbCs7n (by kernel_rfl) zsz rfl g74
        exact flw_skip rfl ((wanted_of rfl 74 rfl t74).trans rfl) hS (Flz.refl _) (updF_self _ _ _)
      · intro f w1 hS hf
        generalize hA : putAll _ _ f = aA
        have g74 : f 43 = .bool false := hf 43 (by decide)
        have t74 : aA.tmps[74]? = some (.bool false) := by rw [← hA]; exact putAll_g f 74 43 slotsCs7n a0 sbCs7n (by kernel_rfl) zsz rfl g74
        exact flw_skip rfl ((wanted_of rfl 74 rfl t74).trans rfl) hS (Flz.refl _) (updF_self _ _ _)
      · intro f w1 hS hf
        generalize hA : putAll _ _ f = aA
        have g71 : f 40 = .bool true := hf 40 (by decide)
        have t71 : aA.tmps[71]? = some (.bool true) := by rw [← hA]; exact putAll_g f 71 40 slotsCs7n a0 sbCs7n (by kernel_rfl) zsz rfl g71
        have h74 : f 43 = .bool false := hf 43 (by decide)
        have r74 : aA.eval (.tmp 74) = .bool false := by rw [← hA]; exact putAll_at f 74 43 slotsCs7n a0 sbCs7n (by kernel_rfl) zsz rfl h74
        exact flw_val rfl ((wanted_of rfl 71 rfl t71).trans rfl) (.bool false) (ex_pick (.tmp 74) (.tmp 77) _ rfl false r74 ((if_neg (by decide)).trans rfl)) hS (Flz.refl _) (updF_self _ _ _)
      · intro f w1 hS hf
        generalize hA : putAll _ _ f = aA
        have g71 : f 40 = .bool true := hf 40 (by decide)
        have t71 : aA.tmps[71]? = some (.bool true) := by rw [← hA]; exact putAll_g f 71 40 slotsCs7n a0 sbCs7n (by kernel_rfl) zsz rfl g71
        have h72 : f 41 = .bool false := hf 41 (by decide)
        have r72 : aA.eval (.tmp 72) = .bool false := by rw [← hA]; exact putAll_at f 72 41 slotsCs7n a0 sbCs7n (by kernel_rfl) zsz rfl h72
        have h78 : f 47 = .bool false := hf 47 (by decide)
        have r78 : aA.eval (.tmp 78) = .bool false := by rw [← hA]; exact putAll_at f 78 47 slotsCs7n a0 sbCs7n (by kernel_rfl) zsz rfl h78
        exact flw_val rfl ((wanted_of rfl 71 rfl t71).trans rfl) (.bool true) (ex_eqB _ _ (.tmp 72) (.tmp 78) rfl (by kernel_rfl) false false r72 r78) hS (Flz.refl _) (updF_self _ _ _)
      · intro f w1 hS hf
        generalize hA : putAll _ _ f = aA
        have h71 : f 40 = .bool true := hf 40 (by decide)
        have r71 : aA.eval (.tmp 71) = .bool true := by rw [← hA]; exact putAll_at f 71 40 slotsCs7n a0 sbCs7n (by kernel_rfl) zsz rfl h71
        have h79 : f 48 = .bool true := hf 48 (by decide)
        have r79 : aA.eval (.tmp 79) = .bool true := by rw [← hA]; exact putAll_at f 79 48 slotsCs7n a0 sbCs7n (by kernel_rfl) zsz rfl h79
        exact flw_val rfl rfl (.bool true) (ex_pick (.tmp 71) (.tmp 79) _ rfl true r71 ((if_pos rfl).trans r79)) hS (Flz.refl _) (updF_self _ _ _)
      · intro f w1 hS hf
        generalize hA : putAll _ _ f = aA
        have h80 : f 49 = .bool true := hf 49 (by decide)
        have r80 : aA.eval (.tmp 80) = .bool true := by rw [← hA]; exact putAll_at f 80 49 slotsCs7n a0 sbCs7n (by kernel_rfl) zsz rfl h80
        exact flw_val rfl rfl (.bool true) (ex_move (.tmp 80) rfl r80) hS (Flz.refl _) (updF_self _ _ _)
      · intro f w1 hS hf
        generalize hA : putAll _ _ f = aA
        have g81 : f 50 = .bool true := hf 50 (by decide)
        have t81 : aA.tmps[81]? = some (.bool true) := by rw [← hA]; exact putAll_g f 81 50 slotsCs7n a0 sbCs7n (by kernel_rfl) zsz rfl g81
        have r13 : aA.eval (.tmp 13) = .bool false := by rw [← hA]; exact putAll_off f 13 slotsCs7n a0 (by kernel_rfl) z13
        exact flw_val rfl ((wanted_of rfl 81 rfl t81).trans rfl) (.bool false) (ex_move (.tmp 13) rfl r13) hS (Flz.refl _) (updF_self _ _ _)
      · intro f w1 hS hf
        generalize hA : putAll _ _ f = aA
        have g81 : f 50 = .bool true := hf 50 (by decide)
        have t81 : aA.tmps[81]? = some (.bool true) := by rw [← hA]; exact putAll_g f 81 50 slotsCs7n a0 sbCs7n (by kernel_rfl) zsz rfl g81
        have h82 : f 51 = .bool false := hf 51 (by decide)
        have r82 : aA.eval (.tmp 82) = .bool false := by rw [← hA]; exact putAll_at f 82 51 slotsCs7n a0 sbCs7n (by kernel_rfl) zsz rfl h82
        exact flw_val rfl ((wanted_of rfl 81 rfl t81).trans rfl) (.bool true) (ex_not _ (.tmp 82) rfl r82) hS (Flz.refl _) (updF_self _ _ _)
      · intro f w1 hS hf
        generalize hA : putAll _ _ f = aA
        have g81 : f 50 = .bool true := hf 50 (by decide)
        have t81 : aA.tmps[81]? = some (.bool true) := by rw [← hA]; exact putAll_g f 81 50 slotsCs7n a0 sbCs7n (by kernel_rfl) zsz rfl g81
        have h83 : f 52 = .bool true := hf 52 (by decide)
        have r83 : aA.eval (.tmp 83) = .bool true := by rw [← hA]; exact putAll_at f 83 52 slotsCs7n a0 sbCs7n (by kernel_rfl) zsz rfl h83
        exact flw_val rfl ((wanted_of rfl 81 rfl t81).trans rfl) (.bool true) (ex_move (.tmp 83) rfl r83) hS (Flz.refl _) (updF_self _ _ _)
      · intro f w1 hS hf
        generalize hA : putAll _ _ f = aA
        have g84 : f 53 = .bool true := hf 53 (by decide)
        have t84 : aA.tmps[84]? = some (.bool true) := by rw [← hA]; exact putAll_g f 84 53 slotsCs7n a0 sbCs7n (by kernel_rfl) zsz rfl g84
        exact flw_skip rfl ((wanted_of rfl 84 rfl t84).trans rfl) hS (Flz.refl _) (updF_self _ _ _)
      · intro f w1 hS hf
        generalize hA : putAll _ _ f = aA
        have g84 : f 53 = .bool true := hf 53 (by decide)
        have t84 : aA.tmps[84]? = some (.bool true) := by rw [← hA]; exact putAll_g f 84 53 slotsCs7n a0 sbCs7n (by kernel_rfl) zsz rfl g84
        exact flw_skip rfl ((wanted_of rfl 84 rfl t84).trans rfl) hS (Flz.refl _) (updF_self _ _ _)
      · intro f w1 hS hf
        generalize hA : putAll _ _ f = aA
        have g84 : f 53 = .bool true := hf 53 (by decide)
        have t84 : aA.tmps[84]? = some (.bool true) := by rw [← hA]; exact putAll_g f 84 53 slotsCs7n a0 sbCs7n (by kernel_rfl) zsz rfl g84
        exact flw_skip rfl ((wanted_of rfl 84 rfl t84).trans rfl) hS (Flz.refl _) (updF_self _ _ _)
      · intro f w1 hS hf
        generalize hA : putAll _ _ f = aA
        have g84 : f 53 = .bool true := hf 53 (by decide)
        have t84 : aA.tmps[84]? = some (.bool true) := by rw [← hA]; exact putAll_g f 84 53 slotsCs7n a0 sbCs7n (by kernel_rfl) zsz rfl g84
        exact flw_skip rfl ((wanted_of rfl 84 rfl t84).trans rfl) hS (Flz.refl _) (updF_self _ _ _)
      · intro f w1 hS hf
        generalize hA : putAll _ _ f = aA
        have g81 : f 50 = .bool true := hf 50 (by decide)
        have t81 : aA.tmps[81]? = some (.bool true) := by rw [← hA]; exact putAll_g f 81 50 slotsCs7n a0 sbCs7n (by kernel_rfl) zsz rfl g81
        have h84 : f 53 = .bool true := hf 53 (by decide)
        have r84 : aA.eval (.tmp 84) = .bool true := by rw [← hA]; exact putAll_at f 84 53 slotsCs7n a0 sbCs7n (by kernel_rfl) zsz rfl h84
        exact flw_val rfl ((wanted_of rfl 81 rfl t81).trans rfl) (.bool true) (ex_pick (.tmp 84) _ (.tmp 88) rfl true r84 ((if_pos rfl).trans rfl)) hS (Flz.refl _) (updF_self _ _ _)
      · intro f w1 hS hf
        generalize hA : putAll _ _ f = aA
        have h81 : f 50 = .bool true := hf 50 (by decide)
        have r81 : aA.eval (.tmp 81) = .bool true := by rw [← hA]; exact putAll_at f 81 50 slotsCs7n a0 sbCs7n (by kernel_rfl) zsz rfl h81
        have h89 : f 58 = .bool true := hf 58 (by decide)
        have r89 : aA.eval (.tmp 89) = .bool true := by rw [← hA]; exact putAll_at f 89 58 slotsCs7n a0 sbCs7n (by kernel_rfl) zsz rfl h89
        exact flw_val rfl rfl (.bool true) (ex_pick (.tmp 81) (.tmp 89) _ rfl true r81 ((if_pos rfl).trans r89)) hS (Flz.refl _) (updF_self _ _ _)
      · intro f w1 hS hf
        generalize hA : putAll _ _ f = aA
        have h90 : f 59 = .bool true := hf 59 (by decide)
        have r90 : aA.eval (.tmp 90) = .bool true := by rw [← hA]; exact putAll_at f 90 59 slotsCs7n a0 sbCs7n (by kernel_rfl) zsz rfl h90
        exact flw_val rfl rfl (.bool true) (ex_move (.tmp 90) rfl r90) hS (Flz.refl _) (updF_self _ _ _)
      · intro f w1 hS hf
        generalize hA : putAll _ _ f = aA
        have g91 : f 60 = .bool true := hf 60 (by decide)
        have t91 : aA.tmps[91]? = some (.bool true) := by rw [← hA]; exact putAll_g f 91 60 slotsCs7n a0 sbCs7n (by kernel_rfl) zsz rfl g91
        have r13 : aA.eval (.tmp 13) = .bool false := by rw [← hA]; exact putAll_off f 13 slotsCs7n a0 (by kernel_rfl) z13
        exact flw_val rfl ((wanted_of rfl 91 rfl t91).trans rfl) (.bool false) (ex_move (.tmp 13) rfl r13) hS (Flz.refl _) (updF_self _ _ _)
      · intro f w1 hS hf
        generalize hA : putAll _ _ f = aA
        have g91 : f 60 = .bool true := hf 60 (by decide)
        have t91 : aA.tmps[91]? = some (.bool true) := by rw [← hA]; exact putAll_g f 91 60 slotsCs7n a0 sbCs7n (by kernel_rfl) zsz rfl g91
        have h92 : f 61 = .bool false := hf 61 (by decide)
        have r92 : aA.eval (.tmp 92) = .bool false := by rw [← hA]; exact putAll_at f 92 61 slotsCs7n a0 sbCs7n (by kernel_rfl) zsz rfl h92
        exact flw_val rfl ((wanted_of rfl 91 rfl t91).trans rfl) (.bool false) (ex_move (.tmp 92) rfl r92) hS (Flz.refl _) (updF_self _ _ _)
      · intro f w1 hS hf
        generalize hA : putAll _ _ f = aA
        have g93 : f 62 = .bool false := hf 62 (by decide)
        have t93 : aA.tmps[93]? = some (.bool false) := by rw [← hA]; exact putAll_g f 93 62 slotsCs7n a0 sbCs7n (by kernel_rfl) zsz rfl g93
        have r11 : aA.eval (.tmp 11) = .pointer (some ⟨b5_6, 0, none⟩) := by rw [← hA]; exact putAll_off f 11 slotsCs7n a0 (by kernel_rfl) z11
        exact flw_val rfl ((wanted_of rfl 93 rfl t93).trans rfl) (.agg (encU zS).toArray) (ex_loadR 24 (.tmp 11) rfl ⟨b5_6, 0, none⟩ r11 (fun _ => by kernel_rfl) (encU zS) (by rw [encU_len]; kernel_rfl) ((HX_b5_6.out.keepB hS).part (encU zS) 0 (encU_all' zS))) hS (Flz.refl _) (updF_self _ _ _)
      · intro f w1 hS hf
        generalize hA : putAll _ _ f = aA
        have g93 : f 62 = .bool false := hf 62 (by decide)
        have t93 : aA.tmps[93]? = some (.bool false) := by rw [← hA]; exact putAll_g f 93 62 slotsCs7n a0 sbCs7n (by kernel_rfl) zsz rfl g93
        have h94 : f 63 = .agg (encU zS).toArray := hf 63 (by decide)
        have r94 : aA.eval (.tmp 94) = .agg (encU zS).toArray := by rw [← hA]; exact putAll_at f 94 63 slotsCs7n a0 sbCs7n (by kernel_rfl) zsz rfl h94
        exact flw_call rfl ((wanted_of rfl 93 rfl t93).trans rfl) 22 #[(.tmp 94)] _ rfl #[.agg (encU zS).toArray] (by simp only [List.map_toArray, List.map_cons, List.map_nil, r94]) (fun w => by kernel_rfl) (fun v _ => v = .bool true) (as_any (zeroS_any zS w1) (congrArg Value.bool (decide_eq_true (rfl : zS = zS)))) (fun v w' hr hb => ⟨hS.trans (hb.mono hS.size), Flz.of hb, (updF_self _ _ _).trans hr⟩)
      · intro f w1 hS hf
        generalize hA : putAll _ _ f = aA
        have g91 : f 60 = .bool true := hf 60 (by decide)
        have t91 : aA.tmps[91]? = some (.bool true) := by rw [← hA]; exact putAll_g f 91 60 slotsCs7n a0 sbCs7n (by kernel_rfl) zsz rfl g91
        have h93 : f 62 = .bool false := hf 62 (by decide)
        have r93 : aA.eval (.tmp 93) = .bool false := by rw [← hA]; exact putAll_at f 93 62 slotsCs7n a0 sbCs7n (by kernel_rfl) zsz rfl h93
        have h95 : f 64 = .bool true := hf 64 (by decide)
        have r95 : aA.eval (.tmp 95) = .bool true := by rw [← hA]; exact putAll_at f 95 64 slotsCs7n a0 sbCs7n (by kernel_rfl) zsz rfl h95
        exact flw_val rfl ((wanted_of rfl 91 rfl t91).trans rfl) (.bool true) (ex_pick (.tmp 93) _ (.tmp 95) rfl false r93 ((if_neg (by decide)).trans r95)) hS (Flz.refl _) (updF_self _ _ _)
      · intro f w1 hS hf
        generalize hA : putAll _ _ f = aA
        have h91 : f 60 = .bool true := hf 60 (by decide)
        have r91 : aA.eval (.tmp 91) = .bool true := by rw [← hA]; exact putAll_at f 91 60 slotsCs7n a0 sbCs7n (by kernel_rfl) zsz rfl h91
        have h96 : f 65 = .bool true := hf 65 (by decide)
        have r96 : aA.eval (.tmp 96) = .bool true := by rw [← hA]; exact putAll_at f 96 65 slotsCs7n a0 sbCs7n (by kernel_rfl) zsz rfl h96
        exact flw_val rfl rfl (.bool true) (ex_pick (.tmp 91) (.tmp 96) _ rfl true r91 ((if_pos rfl).trans r96)) hS (Flz.refl _) (updF_self _ _ _)
      · intro f w1 hS hf
        generalize hA : putAll _ _ f = aA
        have h97 : f 66 = .bool true := hf 66 (by decide)
        have r97 : aA.eval (.tmp 97) = .bool true := by rw [← hA]; exact putAll_at f 97 66 slotsCs7n a0 sbCs7n (by kernel_rfl) zsz rfl h97
        exact flw_val rfl rfl (.bool true) (ex_move (.tmp 97) rfl r97) hS (Flz.refl _) (updF_self _ _ _)
      · intro f w1 hS hf
        generalize hA : putAll _ _ f = aA
        have g98 : f 67 = .bool true := hf 67 (by decide)
        have t98 : aA.tmps[98]? = some (.bool true) := by rw [← hA]; exact putAll_g f 98 67 slotsCs7n a0 sbCs7n (by kernel_rfl) zsz rfl g98
        have r3 : aA.eval (.tmp 3) = .pointer (some ⟨g1, 0, none⟩) := by rw [← hA]; exact putAll_off f 3 slotsCs7n a0 (by kernel_rfl) z3
        exact flw_val rfl ((wanted_of rfl 98 rfl t98).trans rfl) (aggC a) (ex_loadR 28 (.tmp 3) rfl ⟨g1, 0, none⟩ r3 (fun _ => by kernel_rfl) (encC a) (by rw [encC_len]; kernel_rfl) ((HX1.out.keepB hS).part (encC a) 0 (encC_all a))) hS (Flz.refl _) (updF_self _ _ _)
      · intro f w1 hS hf
        generalize hA : putAll _ _ f = aA
        have g98 : f 67 = .bool true := hf 67 (by decide)
        have t98 : aA.tmps[98]? = some (.bool true) := by rw [← hA]; exact putAll_g f 98 67 slotsCs7n a0 sbCs7n (by kernel_rfl) zsz rfl g98
        have h99 : f 68 = aggC a := hf 68 (by decide)
        have r99 : aA.eval (.tmp 99) = aggC a := by rw [← hA]; exact putAll_at f 99 68 slotsCs7n a0 sbCs7n (by kernel_rfl) zsz rfl h99
        exact flw_call rfl ((wanted_of rfl 98 rfl t98).trans rfl) 16 #[(.tmp 99)] _ rfl #[aggC a] (by simp only [List.map_toArray, List.map_cons, List.map_nil, r99]) (fun w => by kernel_rfl) (fun v _ => v = .bool (decide (a = zC))) (zeroC_any a w1) (fun v w' hr hb => ⟨hS.trans (hb.mono hS.size), Flz.of hb, (updF_self _ _ _).trans hr⟩)
      · intro f w1 hS hf
        generalize hA : putAll _ _ f = aA
        have g98 : f 67 = .bool true := hf 67 (by decide)
        have t98 : aA.tmps[98]? = some (.bool true) := by rw [← hA]; exact putAll_g f 98 67 slotsCs7n a0 sbCs7n (by kernel_rfl) zsz rfl g98
        have r9 : aA.eval (.tmp 9) = .pointer (some ⟨b4_4, 0, none⟩) := by rw [← hA]; exact putAll_off f 9 slotsCs7n a0 (by kernel_rfl) z9
        exact flw_val rfl ((wanted_of rfl 98 rfl t98).trans rfl) (aggC a) (ex_loadR 37 (.tmp 9) rfl ⟨b4_4, 0, none⟩ r9 (fun _ => by kernel_rfl) (encC a) (by rw [encC_len]; kernel_rfl) ((HX_b4_4.out.keepB hS).part (encC a) 0 (encC_all a))) hS (Flz.refl _) (updF_self _ _ _)
      · intro f w1 hS hf
        generalize hA : putAll _ _ f = aA
        have g98 : f 67 = .bool true := hf 67 (by decide)
        have t98 : aA.tmps[98]? = some (.bool true) := by rw [← hA]; exact putAll_g f 98 67 slotsCs7n a0 sbCs7n (by kernel_rfl) zsz rfl g98
        exact flw_val rfl ((wanted_of rfl 98 rfl t98).trans rfl) (aggC zC) (ex_build 37 _ rfl (encC zC).toArray [] (by kernel_rfl) (builtR0)) hS (Flz.refl _) (updF_self _ _ _)
      · intro f w1 hS hf
        generalize hA : putAll _ _ f = aA
        have g98 : f 67 = .bool true := hf 67 (by decide)
        have t98 : aA.tmps[98]? = some (.bool true) := by rw [← hA]; exact putAll_g f 98 67 slotsCs7n a0 sbCs7n (by kernel_rfl) zsz rfl g98
        have h101 : f 70 = aggC a := hf 70 (by decide)
        have r101 : aA.eval (.tmp 101) = aggC a := by rw [← hA]; exact putAll_at f 101 70 slotsCs7n a0 sbCs7n (by kernel_rfl) zsz rfl h101
        have h102 : f 71 = aggC zC := hf 71 (by decide)
        have r102 : aA.eval (.tmp 102) = aggC zC := by rw [← hA]; exact putAll_at f 102 71 slotsCs7n a0 sbCs7n (by kernel_rfl) zsz rfl h102
        exact flw_val rfl ((wanted_of rfl 98 rfl t98).trans rfl) (.bool (decide (a = zC))) (eqlR (.tmp 101) (.tmp 102) _ rfl a zC r101 r102) hS (Flz.refl _) (updF_self _ _ _)
      · intro f w1 hS hf
        generalize hA : putAll _ _ f = aA
        have g98 : f 67 = .bool true := hf 67 (by decide)
        have t98 : aA.tmps[98]? = some (.bool true) := by rw [← hA]; exact putAll_g f 98 67 slotsCs7n a0 sbCs7n (by kernel_rfl) zsz rfl g98
        have h100 : f 69 = .bool (decide (a = zC)) := hf 69 (by decide)
        have r100 : aA.eval (.tmp 100) = .bool (decide (a = zC)) := by rw [← hA]; exact putAll_at f 100 69 slotsCs7n a0 sbCs7n (by kernel_rfl) zsz rfl h100
        have h103 : f 72 = .bool (decide (a = zC)) := hf 72 (by decide)
        have r103 : aA.eval (.tmp 103) = .bool (decide (a = zC)) := by rw [← hA]; exact putAll_at f 103 72 slotsCs7n a0 sbCs7n (by kernel_rfl) zsz rfl h103
        exact flw_val rfl ((wanted_of rfl 98 rfl t98).trans rfl) (.bool true) (Eq.trans (ex_eqB _ _ (.tmp 100) (.tmp 103) rfl (by kernel_rfl) (decide (a = zC)) (decide (a = zC)) r100 r103) (by rw [(beq_self_eq_true (decide (a = zC)))])) hS (Flz.refl _) (updF_self _ _ _)
      · intro f w1 hS hf
        generalize hA : putAll _ _ f = aA
        have h98 : f 67 = .bool true := hf 67 (by decide)
        have r98 : aA.eval (.tmp 98) = .bool true := by rw [← hA]; exact putAll_at f 98 67 slotsCs7n a0 sbCs7n (by kernel_rfl) zsz rfl h98
        have h104 : f 73 = .bool true := hf 73 (by decide)
        have r104 : aA.eval (.tmp 104) = .bool true := by rw [← hA]; exact putAll_at f 104 73 slotsCs7n a0 sbCs7n (by kernel_rfl) zsz rfl h104
        exact flw_val rfl rfl (.bool true) (ex_pick (.tmp 98) (.tmp 104) _ rfl true r98 ((if_pos rfl).trans r104)) hS (Flz.refl _) (updF_self _ _ _)
      · intro f w1 hS hf
        generalize hA : putAll _ _ f = aA
        have h105 : f 74 = .bool true := hf 74 (by decide)
        have r105 : aA.eval (.tmp 105) = .bool true := by rw [← hA]; exact putAll_at f 105 74 slotsCs7n a0 sbCs7n (by kernel_rfl) zsz rfl h105
        exact flw_val rfl rfl (.bool true) (ex_assign (.tmp 105) rfl r105) hS (Flz.refl _) (updF_self _ _ _)
    intro f u7 hS hf hap
    have h0 : f 0 = .agg (encU sx).toArray := hf 0 (by decide)
    have h1 : f 1 = .agg (encU (chkS sx)).toArray := hf 1 (by decide)
    have h2 : f 2 = .agg (encU sx).toArray := hf 2 (by decide)
    have h3 : f 3 = .agg (encU (chkS sx)).toArray := hf 3 (by decide)
    have h4 : f 4 = .bool true := hf 4 (by decide)
    have h5 : f 5 = .bool true := hf 5 (by decide)
    have h6 : f 6 = aggC a := hf 6 (by decide)
    have h7 : f 7 = .agg (encU sx).toArray := hf 7 (by decide)
    have h8 : f 8 = aggC (putC a sx) := hf 8 (by decide)
    have h9 : f 9 = aggC (putC a sx) := hf 9 (by decide)
    have h10 : f 10 = aggC a := hf 10 (by decide)
    have h11 : f 11 = .agg (encU sx).toArray := hf 11 (by decide)
    have h12 : f 12 = aggC (withC a 1 sx (chkS sx)) := hf 12 (by decide)
    have h13 : f 13 = .bool true := hf 13 (by decide)
    have h14 : f 14 = .bool true := hf 14 (by decide)
    have h15 : f 15 = .bool true := hf 15 (by decide)
    have h16 : f 16 = aggC a := hf 16 (by decide)
    have h17 : f 17 = .agg (encU sx).toArray := hf 17 (by decide)
    have h18 : f 18 = aggC (takeC a sx) := hf 18 (by decide)
    have h19 : f 19 = aggC (takeC a sx) := hf 19 (by decide)
    have h20 : f 20 = aggC a := hf 20 (by decide)
    have h21 : f 21 = .agg (encU sx).toArray := hf 21 (by decide)
    have h22 : f 22 = aggC (withC a (-1) sx (chkS sx)) := hf 22 (by decide)
    have h23 : f 23 = .bool true := hf 23 (by decide)
    have h24 : f 24 = .bool true := hf 24 (by decide)
    have h25 : f 25 = .bool true := hf 25 (by decide)
    have h26 : f 26 = aggC a := hf 26 (by decide)
    have h27 : f 27 = aggC b := hf 27 (by decide)
    have h28 : f 28 = aggC (minusC a b) := hf 28 (by decide)
    have h29 : f 29 = aggC (minusC a b) := hf 29 (by decide)
    have h30 : f 30 = aggC a := hf 30 (by decide)
    have h31 : f 31 = aggC b := hf 31 (by decide)
    have h32 : f 32 = aggC (minusC a b) := hf 32 (by decide)
    have h33 : f 33 = .bool true := hf 33 (by decide)
    have h34 : f 34 = .bool true := hf 34 (by decide)
    have h35 : f 35 = .bool true := hf 35 (by decide)
    have h36 : f 36 = .bool false := hf 36 (by decide)
    have h37 : f 37 = .bool false := hf 37 (by decide)
    have h38 : f 38 = .bool true := hf 38 (by decide)
    have h39 : f 39 = .bool true := hf 39 (by decide)
    have h40 : f 40 = .bool true := hf 40 (by decide)
    have h41 : f 41 = .bool false := hf 41 (by decide)
    have h42 : f 42 = .bool false := hf 42 (by decide)
    have h43 : f 43 = .bool false := hf 43 (by decide)
    have h44 : f 44 = undef := hf 44 (by decide)
    have h45 : f 45 = undef := hf 45 (by decide)
    have h46 : f 46 = undef := hf 46 (by decide)
    have h47 : f 47 = .bool false := hf 47 (by decide)
    have h48 : f 48 = .bool true := hf 48 (by decide)
    have h49 : f 49 = .bool true := hf 49 (by decide)
    have h50 : f 50 = .bool true := hf 50 (by decide)
    have h51 : f 51 = .bool false := hf 51 (by decide)
    have h52 : f 52 = .bool true := hf 52 (by decide)
    have h53 : f 53 = .bool true := hf 53 (by decide)
    have h54 : f 54 = undef := hf 54 (by decide)
    have h55 : f 55 = undef := hf 55 (by decide)
    have h56 : f 56 = undef := hf 56 (by decide)
    have h57 : f 57 = undef := hf 57 (by decide)
    have h58 : f 58 = .bool true := hf 58 (by decide)
    have h59 : f 59 = .bool true := hf 59 (by decide)
    have h60 : f 60 = .bool true := hf 60 (by decide)
    have h61 : f 61 = .bool false := hf 61 (by decide)
    have h62 : f 62 = .bool false := hf 62 (by decide)
    have h63 : f 63 = .agg (encU zS).toArray := hf 63 (by decide)
    have h64 : f 64 = .bool true := hf 64 (by decide)
    have h65 : f 65 = .bool true := hf 65 (by decide)
    have h66 : f 66 = .bool true := hf 66 (by decide)
    have h67 : f 67 = .bool true := hf 67 (by decide)
    have h68 : f 68 = aggC a := hf 68 (by decide)
    have h69 : f 69 = .bool (decide (a = zC)) := hf 69 (by decide)
    have h70 : f 70 = aggC a := hf 70 (by decide)
    have h71 : f 71 = aggC zC := hf 71 (by decide)
    have h72 : f 72 = .bool (decide (a = zC)) := hf 72 (by decide)
    have h73 : f 73 = .bool true := hf 73 (by decide)
    have h74 : f 74 = .bool true := hf 74 (by decide)
    have h75 : f 75 = .bool true := hf 75 (by decide)
    clear hf hap
    clear zsz z7 z8 z3 z9 z4 z10 z13 z14 z12 z11
    subst ha0
    simp only [slotsCs7n, putAll, h0, h1, h2, h3, h4, h5, h6, h7, h8, h9, h10, h11, h12, h13, h14, h15, h16, h17, h18, h19, h20, h21, h22, h23, h24, h25, h26, h27, h28, h29, h30, h31, h32, h33, h34, h35, h36, h37, h38, h39, h40, h41, h42, h43, h44, h45, h46, h47, h48, h49, h50, h51, h52, h53, h54, h55, h56, h57, h58, h59, h60, h61, h62, h63, h64, h65, h66, h67, h68, h69, h70, h71, h72, h73, h74, h75, Act.put, List.setIfInBounds_toArray, List.set_cons_zero, List.set_cons_succ]
    clear h0 h1 h2 h3 h4 h5 h6 h7 h8 h9 h10 h11 h12 h13 h14 h15 h16 h17 h18 h19 h20 h21 h22 h23 h24 h25 h26 h27 h28 h29 h30 h31 h32 h33 h34 h35 h36 h37 h38 h39 h40 h41 h42 h43 h44 h45 h46 h47 h48 h49 h50 h51 h52 h53 h54 h55 h56 h57 h58 h59 h60 h61 h62 h63 h64 h65 h66 h67 h68 h69 h70 h71 h72 h73 h74 h75
    refine tl_nilN ?_
    replace HX1 := Lib.hid (HX1.out.keepB hS)
    replace HX2 := Lib.hid (HX2.out.keepB hS)
    replace HX3 := Lib.hid (HX3.out.keepB hS)
    replace HX_b3_2 := Lib.hid (HX_b3_2.out.keepB hS)
    replace HX_b3_3 := Lib.hid (HX_b3_3.out.keepB hS)
    replace HX_b4_4 := Lib.hid (HX_b4_4.out.keepB hS)
    replace HX_b4_5 := Lib.hid (HX_b4_5.out.keepB hS)
    replace HX_b5_6 := Lib.hid (HX_b5_6.out.keepB hS)
    replace HB := Lib.hid (HB.out.trans (hS.mono HB.out.size))
    clear hS
    go_wp2_with fail
    go_ret
    first | exact ⟨⟨_, rfl, rfl⟩, HB.out⟩ | exact ⟨rfl, HB.out⟩
theorem cellSays_any (a : Ce) (b : Ce) (sx : Su) (w : World) (hL : Laid w) : Calls Tryd.prog 4 #[aggC a, aggC b, .agg (encU sx).toArray] w fun e w' => (∃ v, e = .returned v ∧ v = .bool true) ∧ Below w.heap.size w w' := cellSays_b a b sx w w (Below.refl _ _) hL
theorem cellSays_law (a b : Ce) (sx : Su) (w : World) (hL : Laid w) : Calls Tryd.prog 4 #[aggC a, aggC b, .agg (encU sx).toArray] w fun e w' => e = .returned (.bool true) ∧ Below w.heap.size w w' :=
  Calls.mono (cellSays_any a b sx w hL) (by rintro e w' ⟨⟨v, rfl, rfl⟩, h⟩; exact ⟨rfl, h⟩)
end Go.Proofs.YtihkbblapfjobaaDoor
