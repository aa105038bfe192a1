/- The law CellKnown: it answers true. Condition: the sums' tables are laid. -/
import Derived.Test.YtihkbblapfjobaaDoorAw
namespace Go.Proofs.YtihkbblapfjobaaDoor
open Go.RowKit
theorem ck_two (x y : Su) : (putC (putC zC x) y).1 = 2 := by rw [putC_zero]; show IntKind.i64.wrap (1 + 1) = 2; decide
theorem ck_three (x y : Su) : (takeC (putC (putC (putC zC x) y) x) y).1 = 2 := by rw [putC_zero]; show IntKind.i64.wrap (IntKind.i64.wrap (IntKind.i64.wrap (1 + 1) + 1) + -1) = 2; decide
theorem ck_off {c : Ce} (h1 : c.1 ≠ 1) (h2 : c.1 ≠ -1) : pureV c = .tuple #[.agg (encU zS).toArray, .bool false, .bool false] := pureV_off (by simp [isPure, h1, h2])
theorem ck_min (x y : Su) : minusC (putC (putC zC x) y) (putC zC x) = putC zC y := by
  rw [putC_right, putC_zero x]
  unfold minusC
  simp only
  rw [show (IntKind.i64.wrap (0 - 1)) = -1 by decide]
  exact take_put (okC_with _ _ _ _) x
theorem ck_chk : shaU (t67 ++ (shaU tX).1) ≠ zS := by
  intro h
  have h1 : (shaU (t67 ++ (shaU tX).1)).1 = zS.1 := congrArg (·.1) h
  have h2 : (decide ((shaU (t67 ++ (shaU tX).1)).1 = zS.1)) = false := by kernel_rfl
  rw [decide_eq_true h1] at h2
  cases h2
theorem ck_low (x : Su) : (takeC (-9223372036854775808, zS, zS) x).1 = 9223372036854775807 := by show IntKind.i64.wrap (-9223372036854775808 + -1) = 9223372036854775807; decide
def waitCk1 (i : Nat) : List Nat := ([[], [0]] : List (List Nat)).getD i []
def slotsCk1 : List (Nat × Nat) := [(23, 0), (24, 1)]
theorem sbCk1 : slotsB slotsCk1 = true := by kernel_rfl
theorem chkCk1 : flwO slotsCk1 waitCk1 2 (regOf Tryd.f3.body 1) = true := by kernel_rfl
def waitCk3 (i : Nat) : List Nat := ([[], [0], [1], [2], [], [4], [5], [6], [], [], [0, 1, 2, 3, 4, 5, 6, 7, 8, 9], [0, 1, 2, 3, 4, 5, 6, 7, 8, 9, 10]] : List (List Nat)).getD i []
def slotsCk3 : List (Nat × Nat) := [(25, 0), (26, 1), (27, 2), (28, 3), (29, 4), (30, 5), (31, 6), (32, 7), (1, 8), (2, 9)]
theorem sbCk3 : slotsB slotsCk3 = true := by kernel_rfl
theorem chkCk3 : flwO slotsCk3 waitCk3 10 (regOf Tryd.f3.body 3) = true := by kernel_rfl
def waitCk4 (i : Nat) : List Nat := ([[], [], [0, 1], [], [2, 3], [], [0, 1, 2, 3, 4, 5]] : List (List Nat)).getD i []
def slotsCk4 : List (Nat × Nat) := [(33, 0), (34, 1), (35, 2), (36, 3), (37, 4), (3, 5)]
theorem sbCk4 : slotsB slotsCk4 = true := by kernel_rfl
theorem chkCk4 : flwB slotsCk4 waitCk4 6 (regOf Tryd.f3.body 4) = true := by kernel_rfl
def waitCk5 (i : Nat) : List Nat := ([[], [0], [1], [2], [2], [2], [], [0, 1, 2, 3, 4, 5, 6], [0, 1, 2, 3, 4, 5, 6, 7], [0, 1, 2, 3, 4, 5, 6, 7, 8]] : List (List Nat)).getD i []
def slotsCk5 : List (Nat × Nat) := [(39, 0), (40, 1), (38, 2), (41, 3), (42, 4), (43, 5), (4, 6), (5, 8), (6, 9)]
theorem sbCk5 : slotsB slotsCk5 = true := by kernel_rfl
theorem chkCk5 : flwO slotsCk5 waitCk5 7 (regOf Tryd.f3.body 5) = true := by kernel_rfl
def waitCk6 (i : Nat) : List Nat := ([[], [], [], [1, 2], [0, 3], [4], [5], [6], [6], [6], [], [7, 10], [8], [9]] : List (List Nat)).getD i []
def slotsCk6 : List (Nat × Nat) := [(45, 0), (46, 1), (47, 2), (48, 3), (49, 4), (50, 5), (44, 6), (51, 7), (52, 8), (53, 9), (7, 10), (8, 12), (9, 13)]
theorem sbCk6 : slotsB slotsCk6 = true := by kernel_rfl
theorem chkCk6 : flwB slotsCk6 waitCk6 14 (regOf Tryd.f3.body 6) = true := by kernel_rfl
def waitCk7 (i : Nat) : List Nat := ([[], [], [0, 1], [2], [3], [4], [4], [4], [], [0, 1, 2, 3, 4, 5, 6, 7, 8], [0, 1, 2, 3, 4, 5, 6, 7, 8, 9], [0, 1, 2, 3, 4, 5, 6, 7, 8, 9, 10]] : List (List Nat)).getD i []
def slotsCk7 : List (Nat × Nat) := [(55, 0), (56, 1), (57, 2), (58, 3), (54, 4), (59, 5), (60, 6), (61, 7), (10, 8), (11, 10), (12, 11)]
theorem sbCk7 : slotsB slotsCk7 = true := by kernel_rfl
theorem chkCk7 : flwO slotsCk7 waitCk7 9 (regOf Tryd.f3.body 7) = true := by kernel_rfl
def waitCk8 (i : Nat) : List Nat := ([[], [0], [1], [2], [2], [2], [], [0, 1, 2, 3, 4, 5, 6], [0, 1, 2, 3, 4, 5, 6, 7], [0, 1, 2, 3, 4, 5, 6, 7, 8]] : List (List Nat)).getD i []
def slotsCk8 : List (Nat × Nat) := [(63, 0), (64, 1), (62, 2), (65, 3), (66, 4), (67, 5), (13, 6), (14, 8), (15, 9)]
theorem sbCk8 : slotsB slotsCk8 = true := by kernel_rfl
theorem chkCk8 : flwO slotsCk8 waitCk8 7 (regOf Tryd.f3.body 8) = true := by kernel_rfl
def waitCk9 (i : Nat) : List Nat := ([[], [0], [1], [2], [3], [3], [3], [], [0, 1, 2, 3, 4, 5, 6, 7], [0, 1, 2, 3, 4, 5, 6, 7, 8], [0, 1, 2, 3, 4, 5, 6, 7, 8, 9]] : List (List Nat)).getD i []
def slotsCk9 : List (Nat × Nat) := [(69, 0), (70, 1), (71, 2), (68, 3), (72, 4), (73, 5), (74, 6), (16, 7), (17, 9), (18, 10)]
theorem sbCk9 : slotsB slotsCk9 = true := by kernel_rfl
theorem chkCk9 : flwO slotsCk9 waitCk9 8 (regOf Tryd.f3.body 9) = true := by kernel_rfl
def waitCk10 (i : Nat) : List Nat := ([[], [], [0, 1], [], [2, 3], [4], [5], [6], [6], [6], [], [7, 10], [8], [9]] : List (List Nat)).getD i []
def slotsCk10 : List (Nat × Nat) := [(76, 0), (77, 1), (78, 2), (79, 3), (80, 4), (81, 5), (75, 6), (82, 7), (83, 8), (84, 9), (19, 10), (20, 12), (21, 13)]
theorem sbCk10 : slotsB slotsCk10 = true := by kernel_rfl
theorem chkCk10 : flwB slotsCk10 waitCk10 14 (regOf Tryd.f3.body 10) = true := by kernel_rfl
def waitCk11 (i : Nat) : List Nat := ([[], [], [0, 1], [], [0, 1, 2, 3]] : List (List Nat)).getD i []
def slotsCk11 : List (Nat × Nat) := [(85, 0), (86, 1), (87, 2), (22, 3)]
theorem sbCk11 : slotsB slotsCk11 = true := by kernel_rfl
theorem chkCk11 : flwO slotsCk11 waitCk11 4 (regOf Tryd.f3.body 11) = true := by kernel_rfl
def waitCk12 (i : Nat) : List Nat := ([[], [0], [1], [2], [2, 3], [4], [5], [5, 6], [7], [8], [8], [8, 9, 10], [8, 11], [12], [13], [13, 14], [15], [16], [16, 17], [16, 18], [19], [20], [20], [20, 21, 22], [20, 23], [24], [25], [25, 26], [25, 27], [28], [29], [29, 30], [29, 31], [32], [33], [33, 34], [33, 35], [36], [37], [37, 38], [37, 39], [37, 40], [41], [42], [42, 43], [42], [42], [42, 45, 46], [42, 47], [42, 44, 48], [42, 49], [50], [51], [51, 52], [51, 53], [51, 54], [55], [56], [56, 57], [56, 58], [56, 59], [60]] : List (List Nat)).getD i []
def slotsCk12 : List (Nat × Nat) := [(88, 0), (89, 1), (90, 2), (91, 3), (92, 4), (93, 5), (94, 6), (95, 7), (96, 8), (97, 9), (98, 10), (99, 11), (100, 12), (101, 13), (102, 14), (103, 15), (104, 16), (105, 17), (106, 18), (107, 19), (108, 20), (109, 21), (110, 22), (111, 23), (112, 24), (113, 25), (114, 26), (115, 27), (116, 28), (117, 29), (118, 30), (119, 31), (120, 32), (121, 33), (122, 34), (123, 35), (124, 36), (125, 37), (126, 38), (127, 39), (128, 40), (129, 41), (130, 42), (131, 43), (132, 44), (133, 45), (134, 46), (135, 47), (136, 48), (137, 49), (138, 50), (139, 51), (140, 52), (141, 53), (142, 54), (143, 55), (144, 56), (145, 57), (146, 58), (147, 59), (148, 60), (0, 61)]
theorem sbCk12 : slotsB slotsCk12 = true := by kernel_rfl
theorem chkCk12 : flwB slotsCk12 waitCk12 62 (regOf Tryd.f3.body 12) = true := by kernel_rfl
set_option maxHeartbeats 16000000 in
set_option maxRecDepth 100000 in
theorem cellKnown_b  (w w0 : World) (hB : Below w.heap.size w w0) (hL : Laid w) : Calls Tryd.prog 3 #[] w0 fun e w' => (∃ v, e = .returned v ∧ v = .bool true) ∧ Below w.heap.size w w' := by
  go_enter Tryd.func3, Tryd.ntmps3
  have HB := Lib.hid hB
  clear hB
  have HL := Lib.hid hL
  have HSZ := Lib.hid hL.size
  clear hL
  go_upto_region 1 with fail
  refine wp_act (fun a0 ha0 => ?_)
  have zsz : a0.tmps.size = 149 := by rw [ha0]; rfl
  refine wp_region_flwo (E := Flz) [] slotsCk1 waitCk1 [Fct.val Flz 0 (.bool true), Fct.val Flz 1 (.bool false)] (fun w' => Below w0.heap.size w0 w') _ 2 0 chkCk1 (by kernel_rfl) rfl (by kernel_rfl) (by decide) (Below.refl _ _) ?_ ?_
  · refine lt_s (lt_s (lt_0) ?_) ?_
    · intro f w1 hS hf
      generalize hA : putAll _ _ f = A
      exact flw_call rfl rfl 9 #[] _ rfl #[] (by kernel_rfl) (fun w => by kernel_rfl) (fun v _ => v = .bool true) (awake13_any w1 (HL.out.keep (HB.out.trans (hS.mono HB.out.size)) HSZ.out)) (fun v w' hr hb => ⟨hS.trans (hb.mono hS.size), Flz.of hb, (updF_self _ _ _).trans hr⟩)
    · intro f w1 hS hf
      generalize hA : putAll _ _ f = A
      have h23 : f 0 = .bool true := hf 0 (by decide)
      have r23 : A.eval (.tmp 23) = .bool true := by rw [← hA]; exact putAll_at f 23 0 slotsCk1 a0 sbCk1 (by kernel_rfl) zsz rfl h23
      exact flw_val rfl rfl (.bool false) (ex_not _ (.tmp 23) rfl r23) hS (Flz.refl _) (updF_self _ _ _)
  intro f u1 hS hf hap
  have h0 : f 0 = .bool true := hf 0 (by decide)
  have h1 : f 1 = .bool false := hf 1 (by decide)
  clear hf hap
  clear zsz
  subst ha0
  simp only [slotsCk1, putAll, h0, h1, Act.put, List.setIfInBounds_toArray, List.set_cons_zero, List.set_cons_succ]
  clear h0 h1
  refine tl_nil ?_
  replace HB := Lib.hid (HB.out.trans (hS.mono HB.out.size))
  clear hS
  go_upto_region 3 with fail
  refine wp_act (fun a0 ha0 => ?_)
  have zsz : a0.tmps.size = 149 := by rw [ha0]; rfl
  refine wp_region_flwo (E := Flz) [8, 9] slotsCk3 waitCk3 [Fct.obj 0 (fun v w => ∃ g, v = .slice (some ⟨g, 0, none⟩) 1 1 ∧ u1.heap.size ≤ g ∧ Cl w g 5 (tX.map u8v)) (fun _ _ _ ⟨g, a, b, c⟩ he => ⟨g, a, b, c.flz he⟩), Fct.obj 1 (fun v w => ∃ g, v = .slice (some ⟨g, 0, none⟩) 1 1 ∧ u1.heap.size ≤ g ∧ Cl w g 5 (tX.map u8v)) (fun _ _ _ ⟨g, a, b, c⟩ he => ⟨g, a, b, c.flz he⟩), Fct.obj 2 (fun v w => ∃ g k, v = .slice (some ⟨k, 0, none⟩) 1 1 ∧ Cl w k 26 [.slice (some ⟨g, 0, none⟩) 1 1] ∧ Cl w g 5 (tX.map u8v)) (fun _ _ _ ⟨g, k, a, b, c⟩ he => ⟨g, k, a, b.flz he, c.flz he⟩), Fct.val Flz 3 (.agg (encU (shaU tX)).toArray), Fct.obj 4 (fun v w => ∃ g, v = .slice (some ⟨g, 0, none⟩) 1 1 ∧ u1.heap.size ≤ g ∧ Cl w g 5 (tY.map u8v)) (fun _ _ _ ⟨g, a, b, c⟩ he => ⟨g, a, b, c.flz he⟩), Fct.obj 5 (fun v w => ∃ g, v = .slice (some ⟨g, 0, none⟩) 1 1 ∧ u1.heap.size ≤ g ∧ Cl w g 5 (tY.map u8v)) (fun _ _ _ ⟨g, a, b, c⟩ he => ⟨g, a, b, c.flz he⟩), Fct.obj 6 (fun v w => ∃ g k, v = .slice (some ⟨k, 0, none⟩) 1 1 ∧ Cl w k 26 [.slice (some ⟨g, 0, none⟩) 1 1] ∧ Cl w g 5 (tY.map u8v)) (fun _ _ _ ⟨g, k, a, b, c⟩ he => ⟨g, k, a, b.flz he, c.flz he⟩), Fct.val Flz 7 (.agg (encU (shaU tY)).toArray), Fct.obj 8 (fun v w => ∃ g, v = .pointer (some ⟨g, 0, none⟩) ∧ u1.heap.size ≤ g ∧ Has w g 24 (encU zS)) (fun _ _ _ ⟨g, a, b, c⟩ he => ⟨g, a, b, c.flz he (by decide)⟩), Fct.obj 9 (fun v w => ∃ g, v = .pointer (some ⟨g, 0, none⟩) ∧ u1.heap.size ≤ g ∧ Has w g 24 (encU zS)) (fun _ _ _ ⟨g, a, b, c⟩ he => ⟨g, a, b, c.flz he (by decide)⟩)] (fun w' => Below u1.heap.size u1 w') _ 10 2 chkCk3 (by kernel_rfl) rfl (by kernel_rfl) (by decide) (Below.refl _ _) ?_ ?_
  · refine lt_s (lt_s (lt_s (lt_s (lt_s (lt_s (lt_s (lt_s (lt_s (lt_s (lt_0) ?_) ?_) ?_) ?_) ?_) ?_) ?_) ?_) ?_) ?_
    · intro f w1 hS hf
      generalize hA : putAll _ _ f = A
      exact flw_wp rfl rfl (fun K hK => wp_lit8 1 _ rfl ((tX.map u8v).toArray) (by decide) (by decide) (by kernel_rfl) (hK _ _ (hS.alloc hS.size _) (Flz.al _ _) ⟨_, updF_self _ _ _, hS.size, Cl.made _ _ _⟩))
    · intro f w1 hS hf
      generalize hA : putAll _ _ f = A
      have e25 : A.eval (.tmp 25) = f 0 := by rw [← hA]; exact putAll_at f 25 0 slotsCk3 a0 sbCk3 (by kernel_rfl) zsz rfl rfl
      obtain ⟨g, hv, hg, hc⟩ := hf 0 (by decide)
      exact flw_wp rfl rfl (fun K hK => wp_conv_at (.tmp 25) rfl g 1 1 _ (e25.trans hv) hc (hK _ _ (hS.trans (freeze_flz hc hg).2) (freeze_flz hc hg).1 ⟨g, updF_self _ _ _, hg, hc.flz (freeze_flz hc hg).1⟩))
    · intro f w1 hS hf
      generalize hA : putAll _ _ f = A
      have e26 : A.eval (.tmp 26) = f 1 := by rw [← hA]; exact putAll_at f 26 1 slotsCk3 a0 sbCk3 (by kernel_rfl) zsz rfl rfl
      obtain ⟨g, hv, hg, hc⟩ := hf 1 (by decide)
      exact flw_wp rfl rfl (fun K hK => wp_one_bs (.tmp 26) rfl (some ⟨g, 0, none⟩) 1 1 (e26.trans hv) (hK _ _ (hS.alloc hS.size _) (Flz.al _ _) ⟨g, _, updF_self _ _ _, Cl.made _ _ [_], hc.flz (Flz.al _ _)⟩))
    · intro f w1 hS hf
      generalize hA : putAll _ _ f = A
      have e27 : A.eval (.tmp 27) = f 2 := by rw [← hA]; exact putAll_at f 27 2 slotsCk3 a0 sbCk3 (by kernel_rfl) zsz rfl rfl
      obtain ⟨g, k, hv, hk, hc⟩ := hf 2 (by decide)
      have HOF := of_at (x := tX) hk (some ⟨g, 0, none⟩) 1 rfl (by decide) hc.sees (by decide) (HL.out.keep (HB.out.trans (hS.mono HB.out.size)) HSZ.out)
      exact flw_call rfl rfl 10 #[(.tmp 27)] _ rfl #[.slice (some ⟨k, 0, none⟩) 1 1] (by simp only [List.map_toArray, List.map_cons, List.map_nil, e27, hv]) (fun w => by kernel_rfl) (fun v _ => v = .agg (encU (shaU tX)).toArray) HOF (fun v w' hr hb => ⟨hS.trans (hb.mono hS.size), Flz.of hb, (updF_self _ _ _).trans hr⟩)
    · intro f w1 hS hf
      generalize hA : putAll _ _ f = A
      exact flw_wp rfl rfl (fun K hK => wp_lit8 1 _ rfl ((tY.map u8v).toArray) (by decide) (by decide) (by kernel_rfl) (hK _ _ (hS.alloc hS.size _) (Flz.al _ _) ⟨_, updF_self _ _ _, hS.size, Cl.made _ _ _⟩))
    · intro f w1 hS hf
      generalize hA : putAll _ _ f = A
      have e29 : A.eval (.tmp 29) = f 4 := by rw [← hA]; exact putAll_at f 29 4 slotsCk3 a0 sbCk3 (by kernel_rfl) zsz rfl rfl
      obtain ⟨g, hv, hg, hc⟩ := hf 4 (by decide)
      exact flw_wp rfl rfl (fun K hK => wp_conv_at (.tmp 29) rfl g 1 1 _ (e29.trans hv) hc (hK _ _ (hS.trans (freeze_flz hc hg).2) (freeze_flz hc hg).1 ⟨g, updF_self _ _ _, hg, hc.flz (freeze_flz hc hg).1⟩))
    · intro f w1 hS hf
      generalize hA : putAll _ _ f = A
      have e30 : A.eval (.tmp 30) = f 5 := by rw [← hA]; exact putAll_at f 30 5 slotsCk3 a0 sbCk3 (by kernel_rfl) zsz rfl rfl
      obtain ⟨g, hv, hg, hc⟩ := hf 5 (by decide)
      exact flw_wp rfl rfl (fun K hK => wp_one_bs (.tmp 30) rfl (some ⟨g, 0, none⟩) 1 1 (e30.trans hv) (hK _ _ (hS.alloc hS.size _) (Flz.al _ _) ⟨g, _, updF_self _ _ _, Cl.made _ _ [_], hc.flz (Flz.al _ _)⟩))
    · intro f w1 hS hf
      generalize hA : putAll _ _ f = A
      have e31 : A.eval (.tmp 31) = f 6 := by rw [← hA]; exact putAll_at f 31 6 slotsCk3 a0 sbCk3 (by kernel_rfl) zsz rfl rfl
      obtain ⟨g, k, hv, hk, hc⟩ := hf 6 (by decide)
      have HOF := of_at (x := tY) hk (some ⟨g, 0, none⟩) 1 rfl (by decide) hc.sees (by decide) (HL.out.keep (HB.out.trans (hS.mono HB.out.size)) HSZ.out)
      exact flw_call rfl rfl 10 #[(.tmp 31)] _ rfl #[.slice (some ⟨k, 0, none⟩) 1 1] (by simp only [List.map_toArray, List.map_cons, List.map_nil, e31, hv]) (fun w => by kernel_rfl) (fun v _ => v = .agg (encU (shaU tY)).toArray) HOF (fun v w' hr hb => ⟨hS.trans (hb.mono hS.size), Flz.of hb, (updF_self _ _ _).trans hr⟩)
    · intro f w1 hS hf
      generalize hA : putAll _ _ f = A
      exact flw_wpA rfl rfl (fun K hK => wp_alloc_row 24 rfl (.agg (encU zS).toArray) (fun w => by kernel_rfl) (hK _ _ (hS.alloc hS.size _) (Flz.al _ _) ⟨_, updF_self _ _ _, hS.size, Has.made' _ _ _ _ rfl⟩ (by
        intro i hi hne hl
        simp only [List.mem_cons, List.not_mem_nil, or_false] at hi
        rcases hi with rfl | rfl
        · exact absurd rfl hne
        · obtain ⟨g', hl1, _, hl2⟩ := hl
          rw [hl1]
          exact ptr_ne hl2.lt)))
    · intro f w1 hS hf
      generalize hA : putAll _ _ f = A
      exact flw_wpA rfl rfl (fun K hK => wp_alloc_row 24 rfl (.agg (encU zS).toArray) (fun w => by kernel_rfl) (hK _ _ (hS.alloc hS.size _) (Flz.al _ _) ⟨_, updF_self _ _ _, hS.size, Has.made' _ _ _ _ rfl⟩ (by
        intro i hi hne hl
        simp only [List.mem_cons, List.not_mem_nil, or_false] at hi
        rcases hi with rfl | rfl
        · obtain ⟨g', hl1, _, hl2⟩ := hl
          rw [hl1]
          exact ptr_ne hl2.lt
        · exact absurd rfl hne)))
  intro f u3 hS hf hap
  obtain ⟨gl0, h0, -⟩ := hf 0 (by decide)
  obtain ⟨gl1, h1, -⟩ := hf 1 (by decide)
  obtain ⟨_, gl2, h2, -⟩ := hf 2 (by decide)
  have h3 : f 3 = .agg (encU (shaU tX)).toArray := hf 3 (by decide)
  obtain ⟨gl4, h4, -⟩ := hf 4 (by decide)
  obtain ⟨gl5, h5, -⟩ := hf 5 (by decide)
  obtain ⟨_, gl6, h6, -⟩ := hf 6 (by decide)
  have h7 : f 7 = .agg (encU (shaU tY)).toArray := hf 7 (by decide)
  obtain ⟨b3_8, h8, hgb8, hhb8⟩ := hf 8 (by decide)
  obtain ⟨b3_9, h9, hgb9, hhb9⟩ := hf 9 (by decide)
  have hne8_9 : b3_8 ≠ b3_9 := fun e => hap 8 (by decide) 9 (by decide) (by decide) (by rw [h8, h9, e])
  clear hf hap
  clear zsz
  subst ha0
  simp only [slotsCk3, putAll, h0, h1, h2, h3, h4, h5, h6, h7, h8, h9, Act.put, List.setIfInBounds_toArray, List.set_cons_zero, List.set_cons_succ]
  clear h0 h1 h2 h3 h4 h5 h6 h7 h8 h9
  refine tl_store rfl (by kernel_rfl) 24 (.tmp 1) (.tmp 28) rfl b3_8 (encU (shaU tX)) _ rfl rfl _ hhb8 (by rw [encU_len]; kernel_rfl) (by simp only [encU_len]) (encU_all _) ?_
  intro w3_1 hp8 hbl hot
  replace hS := hS.trans (hbl _ hgb8)
  replace hhb9 := (hot _ (Ne.symm hne8_9)).trans hhb9
  clear hbl hot hhb8
  try simp only [Act.put]
  refine tl_store rfl (by kernel_rfl) 24 (.tmp 2) (.tmp 32) rfl b3_9 (encU (shaU tY)) _ rfl rfl _ hhb9 (by rw [encU_len]; kernel_rfl) (by simp only [encU_len]) (encU_all _) ?_
  intro w3 hp9 hbl hot
  replace hS := hS.trans (hbl _ hgb9)
  replace hp8 := (hot _ hne8_9).trans hp8
  clear hbl hot hhb9
  try simp only [Act.put]
  refine tl_nil ?_
  replace HB := Lib.hid (HB.out.trans (hS.mono HB.out.size))
  clear hS
  have HX_b3_8 : Hid (Has w3 b3_8 24 (encU (shaU tX))) := Lib.hid hp8
  clear hp8 hgb8
  have HX_b3_9 : Hid (Has w3 b3_9 24 (encU (shaU tY))) := Lib.hid hp9
  clear hp9 hgb9
  have HNE_b3_8_b3_9 := Lib.hid hne8_9
  clear hne8_9
  go_upto_region 4 with fail
  have HST : Hid (Below w3.heap.size w3 w3.drew) := Lib.hid (Below.refl _ _).drew
  replace HX_b3_8 := Lib.hid (HX_b3_8.out.keepB HST.out)
  replace HX_b3_9 := Lib.hid (HX_b3_9.out.keepB HST.out)
  replace HB := Lib.hid (HB.out.trans (HST.out.mono HB.out.size))
  clear HST
  refine wp_act (fun a0 ha0 => ?_)
  have zsz : a0.tmps.size = 149 := by rw [ha0]; rfl
  have z1 : a0.eval (.tmp 1) = .pointer (some ⟨b3_8, 0, none⟩) := by rw [ha0]; rfl
  have z2 : a0.eval (.tmp 2) = .pointer (some ⟨b3_9, 0, none⟩) := by rw [ha0]; rfl
  refine wp_region_flw (E := Flz) [] slotsCk4 waitCk4 [Fct.val Flz 0 (aggC zC), Fct.val Flz 1 (.agg (encU (shaU tX)).toArray), Fct.val Flz 2 (aggC (putC zC (shaU tX))), Fct.val Flz 3 (.agg (encU (shaU tY)).toArray), Fct.val Flz 4 (aggC (putC (putC zC (shaU tX)) (shaU tY))), Fct.obj 5 (fun v w => ∃ g, v = .pointer (some ⟨g, 0, none⟩) ∧ w3.drew.heap.size ≤ g ∧ Has w g 28 (encC zC)) (fun _ _ _ ⟨g, a, b, c⟩ he => ⟨g, a, b, c.flz he (by decide)⟩)] (fun w' => Below w3.drew.heap.size w3.drew w') _ 6 1 chkCk4 (by kernel_rfl) rfl (by kernel_rfl) (by kernel_rfl) (by decide) (Below.refl _ _) ?_ ?_
  · refine lt_s (lt_s (lt_s (lt_s (lt_s (lt_s (lt_0) ?_) ?_) ?_) ?_) ?_) ?_
    · intro f w1 hS hf
      generalize hA : putAll _ _ f = A
      exact flw_val rfl rfl (aggC zC) (ex_build 28 _ rfl (encC zC).toArray [] (by kernel_rfl) (builtC0)) hS (Flz.refl _) (updF_self _ _ _)
    · intro f w1 hS hf
      generalize hA : putAll _ _ f = A
      have r1 : A.eval (.tmp 1) = .pointer (some ⟨b3_8, 0, none⟩) := by rw [← hA]; exact putAll_off f 1 slotsCk4 a0 (by kernel_rfl) z1
      exact flw_val rfl rfl (.agg (encU (shaU tX)).toArray) (ex_loadR 24 (.tmp 1) rfl ⟨b3_8, 0, none⟩ r1 (fun _ => by kernel_rfl) (encU (shaU tX)) (by rw [encU_len]; kernel_rfl) ((HX_b3_8.out.keepB hS).part (encU (shaU tX)) 0 (encU_all' (shaU tX)))) hS (Flz.refl _) (updF_self _ _ _)
    · intro f w1 hS hf
      generalize hA : putAll _ _ f = A
      have h33 : f 0 = aggC zC := hf 0 (by decide)
      have r33 : A.eval (.tmp 33) = aggC zC := by rw [← hA]; exact putAll_at f 33 0 slotsCk4 a0 sbCk4 (by kernel_rfl) zsz rfl h33
      have h34 : f 1 = .agg (encU (shaU tX)).toArray := hf 1 (by decide)
      have r34 : A.eval (.tmp 34) = .agg (encU (shaU tX)).toArray := by rw [← hA]; exact putAll_at f 34 1 slotsCk4 a0 sbCk4 (by kernel_rfl) zsz rfl h34
      exact flw_call rfl rfl 11 #[(.tmp 33), (.tmp 34)] _ rfl #[aggC zC, .agg (encU (shaU tX)).toArray] (by simp only [List.map_toArray, List.map_cons, List.map_nil, r33, r34]) (fun w => by kernel_rfl) (fun v _ => v = aggC (putC zC (shaU tX))) (put_any zC (shaU tX) w1 (HL.out.keep (HB.out.trans (hS.mono HB.out.size)) HSZ.out)) (fun v w' hr hb => ⟨hS.trans (hb.mono hS.size), Flz.of hb, (updF_self _ _ _).trans hr⟩)
    · intro f w1 hS hf
      generalize hA : putAll _ _ f = A
      have r2 : A.eval (.tmp 2) = .pointer (some ⟨b3_9, 0, none⟩) := by rw [← hA]; exact putAll_off f 2 slotsCk4 a0 (by kernel_rfl) z2
      exact flw_val rfl rfl (.agg (encU (shaU tY)).toArray) (ex_loadR 24 (.tmp 2) rfl ⟨b3_9, 0, none⟩ r2 (fun _ => by kernel_rfl) (encU (shaU tY)) (by rw [encU_len]; kernel_rfl) ((HX_b3_9.out.keepB hS).part (encU (shaU tY)) 0 (encU_all' (shaU tY)))) hS (Flz.refl _) (updF_self _ _ _)
    · intro f w1 hS hf
      generalize hA : putAll _ _ f = A
      have h35 : f 2 = aggC (putC zC (shaU tX)) := hf 2 (by decide)
      have r35 : A.eval (.tmp 35) = aggC (putC zC (shaU tX)) := by rw [← hA]; exact putAll_at f 35 2 slotsCk4 a0 sbCk4 (by kernel_rfl) zsz rfl h35
      have h36 : f 3 = .agg (encU (shaU tY)).toArray := hf 3 (by decide)
      have r36 : A.eval (.tmp 36) = .agg (encU (shaU tY)).toArray := by rw [← hA]; exact putAll_at f 36 3 slotsCk4 a0 sbCk4 (by kernel_rfl) zsz rfl h36
      exact flw_call rfl rfl 11 #[(.tmp 35), (.tmp 36)] _ rfl #[aggC (putC zC (shaU tX)), .agg (encU (shaU tY)).toArray] (by simp only [List.map_toArray, List.map_cons, List.map_nil, r35, r36]) (fun w => by kernel_rfl) (fun v _ => v = aggC (putC (putC zC (shaU tX)) (shaU tY))) (put_any (putC zC (shaU tX)) (shaU tY) w1 (HL.out.keep (HB.out.trans (hS.mono HB.out.size)) HSZ.out)) (fun v w' hr hb => ⟨hS.trans (hb.mono hS.size), Flz.of hb, (updF_self _ _ _).trans hr⟩)
    · intro f w1 hS hf
      generalize hA : putAll _ _ f = A
      exact flw_wp rfl rfl (fun K hK => wp_alloc_row 28 rfl (aggC zC) (fun w => by kernel_rfl) (hK _ _ (hS.alloc hS.size _) (Flz.al _ _) ⟨_, updF_self _ _ _, hS.size, Has.made' _ _ _ _ rfl⟩))
  intro f u4 hS hf hap
  have h0 : f 0 = aggC zC := hf 0 (by decide)
  have h1 : f 1 = .agg (encU (shaU tX)).toArray := hf 1 (by decide)
  have h2 : f 2 = aggC (putC zC (shaU tX)) := hf 2 (by decide)
  have h3 : f 3 = .agg (encU (shaU tY)).toArray := hf 3 (by decide)
  have h4 : f 4 = aggC (putC (putC zC (shaU tX)) (shaU tY)) := hf 4 (by decide)
  obtain ⟨b4_5, h5, hgb5, hhb5⟩ := hf 5 (by decide)
  clear hf hap
  clear zsz z1 z2
  subst ha0
  simp only [slotsCk4, putAll, h0, h1, h2, h3, h4, h5, Act.put, List.setIfInBounds_toArray, List.set_cons_zero, List.set_cons_succ]
  clear h0 h1 h2 h3 h4 h5
  refine tl_store rfl (by kernel_rfl) 28 (.tmp 3) (.tmp 37) rfl b4_5 (encC (putC (putC zC (shaU tX)) (shaU tY))) _ rfl rfl _ hhb5 (by rw [encC_len]; kernel_rfl) (by simp only [encC_len]) (encC_ones _) ?_
  intro w4 hp5 hbl hot
  replace hS := hS.trans (hbl _ hgb5)
  clear hbl hot hhb5
  try simp only [Act.put]
  refine tl_nilN ?_
  replace HX_b3_8 := Lib.hid (HX_b3_8.out.keepB hS)
  replace HX_b3_9 := Lib.hid (HX_b3_9.out.keepB hS)
  replace HB := Lib.hid (HB.out.trans (hS.mono HB.out.size))
  clear hS
  have HX_b4_5 : Hid (Has w4 b4_5 28 (encC (putC (putC zC (shaU tX)) (shaU tY)))) := Lib.hid hp5
  clear hp5 hgb5
  go_upto_region 5 with fail
  refine wp_act (fun a0 ha0 => ?_)
  have zsz : a0.tmps.size = 149 := by rw [ha0]; rfl
  have z3 : a0.eval (.tmp 3) = .pointer (some ⟨b4_5, 0, none⟩) := by rw [ha0]; rfl
  refine wp_region_flwo (E := Flz) [] slotsCk5 waitCk5 [Fct.val Flz 0 (aggC (putC (putC zC (shaU tX)) (shaU tY))), Fct.val Flz 1 (.tuple #[.agg (encU zS).toArray, .bool false, .bool false]), Fct.val Flz 2 (.tuple #[.agg (encU zS).toArray, .bool false, .bool false]), Fct.val Flz 3 (.agg (encU zS).toArray), Fct.val Flz 4 (.bool false), Fct.val Flz 5 (.bool false), Fct.obj 6 (fun v w => ∃ g, v = .pointer (some ⟨g, 0, none⟩) ∧ w4.heap.size ≤ g ∧ Has w g 24 (encU zS)) (fun _ _ _ ⟨g, a, b, c⟩ he => ⟨g, a, b, c.flz he (by decide)⟩)] (fun w' => Below w4.heap.size w4 w') _ 7 3 chkCk5 (by kernel_rfl) rfl (by kernel_rfl) (by decide) (Below.refl _ _) ?_ ?_
  · refine lt_s (lt_s (lt_s (lt_s (lt_s (lt_s (lt_s (lt_0) ?_) ?_) ?_) ?_) ?_) ?_) ?_
    · intro f w1 hS hf
      generalize hA : putAll _ _ f = A
      have r3 : A.eval (.tmp 3) = .pointer (some ⟨b4_5, 0, none⟩) := by rw [← hA]; exact putAll_off f 3 slotsCk5 a0 (by kernel_rfl) z3
      exact flw_val rfl rfl (aggC (putC (putC zC (shaU tX)) (shaU tY))) (ex_loadR 28 (.tmp 3) rfl ⟨b4_5, 0, none⟩ r3 (fun _ => by kernel_rfl) (encC (putC (putC zC (shaU tX)) (shaU tY))) (by rw [encC_len]; kernel_rfl) ((HX_b4_5.out.keepB hS).part (encC (putC (putC zC (shaU tX)) (shaU tY))) 0 (encC_all (putC (putC zC (shaU tX)) (shaU tY))))) hS (Flz.refl _) (updF_self _ _ _)
    · intro f w1 hS hf
      generalize hA : putAll _ _ f = A
      have h39 : f 0 = aggC (putC (putC zC (shaU tX)) (shaU tY)) := hf 0 (by decide)
      have r39 : A.eval (.tmp 39) = aggC (putC (putC zC (shaU tX)) (shaU tY)) := by rw [← hA]; exact putAll_at f 39 0 slotsCk5 a0 sbCk5 (by kernel_rfl) zsz rfl h39
      exact flw_call rfl rfl 12 #[(.tmp 39)] _ rfl #[aggC (putC (putC zC (shaU tX)) (shaU tY))] (by simp only [List.map_toArray, List.map_cons, List.map_nil, r39]) (fun w => by kernel_rfl) (fun v _ => v = .tuple #[.agg (encU zS).toArray, .bool false, .bool false]) (as_any (pure_any (putC (putC zC (shaU tX)) (shaU tY)) w1 (HL.out.keep (HB.out.trans (hS.mono HB.out.size)) HSZ.out)) (ck_off (by rw [ck_two]; decide) (by rw [ck_two]; decide))) (fun v w' hr hb => ⟨hS.trans (hb.mono hS.size), Flz.of hb, (updF_self _ _ _).trans hr⟩)
    · intro f w1 hS hf
      generalize hA : putAll _ _ f = A
      have h40 : f 1 = .tuple #[.agg (encU zS).toArray, .bool false, .bool false] := hf 1 (by decide)
      have r40 : A.eval (.tmp 40) = .tuple #[.agg (encU zS).toArray, .bool false, .bool false] := by rw [← hA]; exact putAll_at f 40 1 slotsCk5 a0 sbCk5 (by kernel_rfl) zsz rfl h40
      exact flw_val rfl rfl (.tuple #[.agg (encU zS).toArray, .bool false, .bool false]) (ex_move (.tmp 40) rfl r40) hS (Flz.refl _) (updF_self _ _ _)
    · intro f w1 hS hf
      generalize hA : putAll _ _ f = A
      have h38 : f 2 = .tuple #[.agg (encU zS).toArray, .bool false, .bool false] := hf 2 (by decide)
      have r38 : A.eval (.tmp 38) = .tuple #[.agg (encU zS).toArray, .bool false, .bool false] := by rw [← hA]; exact putAll_at f 38 2 slotsCk5 a0 sbCk5 (by kernel_rfl) zsz rfl h38
      exact flw_val rfl rfl (.agg (encU zS).toArray) (ex_extract (.tmp 38) 0 rfl r38 rfl) hS (Flz.refl _) (updF_self _ _ _)
    · intro f w1 hS hf
      generalize hA : putAll _ _ f = A
      have h38 : f 2 = .tuple #[.agg (encU zS).toArray, .bool false, .bool false] := hf 2 (by decide)
      have r38 : A.eval (.tmp 38) = .tuple #[.agg (encU zS).toArray, .bool false, .bool false] := by rw [← hA]; exact putAll_at f 38 2 slotsCk5 a0 sbCk5 (by kernel_rfl) zsz rfl h38
      exact flw_val rfl rfl (.bool false) (ex_extract (.tmp 38) 1 rfl r38 rfl) hS (Flz.refl _) (updF_self _ _ _)
    · intro f w1 hS hf
      generalize hA : putAll _ _ f = A
      have h38 : f 2 = .tuple #[.agg (encU zS).toArray, .bool false, .bool false] := hf 2 (by decide)
      have r38 : A.eval (.tmp 38) = .tuple #[.agg (encU zS).toArray, .bool false, .bool false] := by rw [← hA]; exact putAll_at f 38 2 slotsCk5 a0 sbCk5 (by kernel_rfl) zsz rfl h38
      exact flw_val rfl rfl (.bool false) (ex_extract (.tmp 38) 2 rfl r38 rfl) hS (Flz.refl _) (updF_self _ _ _)
    · intro f w1 hS hf
      generalize hA : putAll _ _ f = A
      exact flw_wp rfl rfl (fun K hK => wp_alloc_row 24 rfl (.agg (encU zS).toArray) (fun w => by kernel_rfl) (hK _ _ (hS.alloc hS.size _) (Flz.al _ _) ⟨_, updF_self _ _ _, hS.size, Has.made' _ _ _ _ rfl⟩))
  intro f u5 hS hf hap
  have h0 : f 0 = aggC (putC (putC zC (shaU tX)) (shaU tY)) := hf 0 (by decide)
  have h1 : f 1 = .tuple #[.agg (encU zS).toArray, .bool false, .bool false] := hf 1 (by decide)
  have h2 : f 2 = .tuple #[.agg (encU zS).toArray, .bool false, .bool false] := hf 2 (by decide)
  have h3 : f 3 = .agg (encU zS).toArray := hf 3 (by decide)
  have h4 : f 4 = .bool false := hf 4 (by decide)
  have h5 : f 5 = .bool false := hf 5 (by decide)
  obtain ⟨b5_6, h6, hgb6, hhb6⟩ := hf 6 (by decide)
  clear hf hap
  clear zsz z3
  subst ha0
  simp only [slotsCk5, putAll, h0, h1, h2, h3, h4, h5, h6, Act.put, List.setIfInBounds_toArray, List.set_cons_zero, List.set_cons_succ]
  clear h0 h1 h2 h3 h4 h5 h6
  refine tl_store rfl (by kernel_rfl) 24 (.tmp 4) (.tmp 41) rfl b5_6 (encU zS) _ rfl rfl _ hhb6 (by rw [encU_len]; kernel_rfl) (by simp only [encU_len]) (encU_all _) ?_
  intro w5 hp6 hbl hot
  replace hS := hS.trans (hbl _ hgb6)
  clear hbl hot hhb6
  try simp only [Act.put]
  refine tl_pure rfl (by kernel_rfl) (.bool false) (ex_assign (.tmp 42) rfl rfl) ?_
  try simp only [Act.put, List.setIfInBounds_toArray, List.set_cons_zero, List.set_cons_succ]
  refine tl_pure rfl (by kernel_rfl) (.bool false) (ex_assign (.tmp 43) rfl rfl) ?_
  try simp only [Act.put, List.setIfInBounds_toArray, List.set_cons_zero, List.set_cons_succ]
  refine tl_nil ?_
  replace HX_b3_8 := Lib.hid (HX_b3_8.out.keepB hS)
  replace HX_b3_9 := Lib.hid (HX_b3_9.out.keepB hS)
  replace HX_b4_5 := Lib.hid (HX_b4_5.out.keepB hS)
  replace HB := Lib.hid (HB.out.trans (hS.mono HB.out.size))
  clear hS
  have HX_b5_6 : Hid (Has w5 b5_6 24 (encU zS)) := Lib.hid hp6
  clear hp6 hgb6
  go_upto_region 6 with fail
  have HST : Hid (Below w5.heap.size w5 w5.drew) := Lib.hid (Below.refl _ _).drew
  replace HX_b3_8 := Lib.hid (HX_b3_8.out.keepB HST.out)
  replace HX_b3_9 := Lib.hid (HX_b3_9.out.keepB HST.out)
  replace HX_b4_5 := Lib.hid (HX_b4_5.out.keepB HST.out)
  replace HX_b5_6 := Lib.hid (HX_b5_6.out.keepB HST.out)
  replace HB := Lib.hid (HB.out.trans (HST.out.mono HB.out.size))
  clear HST
  refine wp_act (fun a0 ha0 => ?_)
  have zsz : a0.tmps.size = 149 := by rw [ha0]; rfl
  have z3 : a0.eval (.tmp 3) = .pointer (some ⟨b4_5, 0, none⟩) := by rw [ha0]; rfl
  have z1 : a0.eval (.tmp 1) = .pointer (some ⟨b3_8, 0, none⟩) := by rw [ha0]; rfl
  refine wp_region_flw (E := (Flf 24 (encU (shaU tY)))) [] slotsCk6 waitCk6 [Fct.val (Flf 24 (encU (shaU tY))) 0 (aggC (putC (putC zC (shaU tX)) (shaU tY))), Fct.val (Flf 24 (encU (shaU tY))) 1 (aggC zC), Fct.val (Flf 24 (encU (shaU tY))) 2 (.agg (encU (shaU tX)).toArray), Fct.val (Flf 24 (encU (shaU tY))) 3 (aggC (putC zC (shaU tX))), Fct.val (Flf 24 (encU (shaU tY))) 4 (aggC (minusC (putC (putC zC (shaU tX)) (shaU tY)) (putC zC (shaU tX)))), Fct.val (Flf 24 (encU (shaU tY))) 5 (.tuple #[.agg (encU (shaU tY)).toArray, .bool true, .bool true]), Fct.val (Flf 24 (encU (shaU tY))) 6 (.tuple #[.agg (encU (shaU tY)).toArray, .bool true, .bool true]), Fct.val (Flf 24 (encU (shaU tY))) 7 (.agg (encU (shaU tY)).toArray), Fct.val (Flf 24 (encU (shaU tY))) 8 (.bool true), Fct.val (Flf 24 (encU (shaU tY))) 9 (.bool true), Fct.shape 24 (encU (shaU tY)) 10 w5.drew.heap.size, Fct.held 24 (encU (shaU tY)) 10 w5.drew.heap.size, Fct.val (Flf 24 (encU (shaU tY))) 12 (.bool true), Fct.val (Flf 24 (encU (shaU tY))) 13 (.bool true)] (fun w' => Below w5.drew.heap.size w5.drew w') _ 14 0 chkCk6 (by kernel_rfl) rfl (by kernel_rfl) (by kernel_rfl) (by decide) (Below.refl _ _) ?_ ?_
  · refine lt_s (lt_s (lt_s (lt_s (lt_s (lt_s (lt_s (lt_s (lt_s (lt_s (lt_s (lt_s (lt_s (lt_s (lt_0) ?_) ?_) ?_) ?_) ?_) ?_) ?_) ?_) ?_) ?_) ?_) ?_) ?_) ?_
    · intro f w1 hS hf
      generalize hA : putAll _ _ f = A
      have r3 : A.eval (.tmp 3) = .pointer (some ⟨b4_5, 0, none⟩) := by rw [← hA]; exact putAll_off f 3 slotsCk6 a0 (by kernel_rfl) z3
      exact flw_val rfl rfl (aggC (putC (putC zC (shaU tX)) (shaU tY))) (ex_loadR 28 (.tmp 3) rfl ⟨b4_5, 0, none⟩ r3 (fun _ => by kernel_rfl) (encC (putC (putC zC (shaU tX)) (shaU tY))) (by rw [encC_len]; kernel_rfl) ((HX_b4_5.out.keepB hS).part (encC (putC (putC zC (shaU tX)) (shaU tY))) 0 (encC_all (putC (putC zC (shaU tX)) (shaU tY))))) hS (Flf.refl _) (updF_self _ _ _)
    · intro f w1 hS hf
      generalize hA : putAll _ _ f = A
      exact flw_val rfl rfl (aggC zC) (ex_build 28 _ rfl (encC zC).toArray [] (by kernel_rfl) (builtC0)) hS (Flf.refl _) (updF_self _ _ _)
    · intro f w1 hS hf
      generalize hA : putAll _ _ f = A
      have r1 : A.eval (.tmp 1) = .pointer (some ⟨b3_8, 0, none⟩) := by rw [← hA]; exact putAll_off f 1 slotsCk6 a0 (by kernel_rfl) z1
      exact flw_val rfl rfl (.agg (encU (shaU tX)).toArray) (ex_loadR 24 (.tmp 1) rfl ⟨b3_8, 0, none⟩ r1 (fun _ => by kernel_rfl) (encU (shaU tX)) (by rw [encU_len]; kernel_rfl) ((HX_b3_8.out.keepB hS).part (encU (shaU tX)) 0 (encU_all' (shaU tX)))) hS (Flf.refl _) (updF_self _ _ _)
    · intro f w1 hS hf
      generalize hA : putAll _ _ f = A
      have h46 : f 1 = aggC zC := hf 1 (by decide)
      have r46 : A.eval (.tmp 46) = aggC zC := by rw [← hA]; exact putAll_at f 46 1 slotsCk6 a0 sbCk6 (by kernel_rfl) zsz rfl h46
      have h47 : f 2 = .agg (encU (shaU tX)).toArray := hf 2 (by decide)
      have r47 : A.eval (.tmp 47) = .agg (encU (shaU tX)).toArray := by rw [← hA]; exact putAll_at f 47 2 slotsCk6 a0 sbCk6 (by kernel_rfl) zsz rfl h47
      exact flw_call rfl rfl 11 #[(.tmp 46), (.tmp 47)] _ rfl #[aggC zC, .agg (encU (shaU tX)).toArray] (by simp only [List.map_toArray, List.map_cons, List.map_nil, r46, r47]) (fun w => by kernel_rfl) (fun v _ => v = aggC (putC zC (shaU tX))) (put_any zC (shaU tX) w1 (HL.out.keep (HB.out.trans (hS.mono HB.out.size)) HSZ.out)) (fun v w' hr hb => ⟨hS.trans (hb.mono hS.size), Flf.of hb, (updF_self _ _ _).trans hr⟩)
    · intro f w1 hS hf
      generalize hA : putAll _ _ f = A
      have h45 : f 0 = aggC (putC (putC zC (shaU tX)) (shaU tY)) := hf 0 (by decide)
      have r45 : A.eval (.tmp 45) = aggC (putC (putC zC (shaU tX)) (shaU tY)) := by rw [← hA]; exact putAll_at f 45 0 slotsCk6 a0 sbCk6 (by kernel_rfl) zsz rfl h45
      have h48 : f 3 = aggC (putC zC (shaU tX)) := hf 3 (by decide)
      have r48 : A.eval (.tmp 48) = aggC (putC zC (shaU tX)) := by rw [← hA]; exact putAll_at f 48 3 slotsCk6 a0 sbCk6 (by kernel_rfl) zsz rfl h48
      exact flw_call rfl rfl 13 #[(.tmp 45), (.tmp 48)] _ rfl #[aggC (putC (putC zC (shaU tX)) (shaU tY)), aggC (putC zC (shaU tX))] (by simp only [List.map_toArray, List.map_cons, List.map_nil, r45, r48]) (fun w => by kernel_rfl) (fun v _ => v = aggC (minusC (putC (putC zC (shaU tX)) (shaU tY)) (putC zC (shaU tX)))) (minus_any (putC (putC zC (shaU tX)) (shaU tY)) (putC zC (shaU tX)) w1) (fun v w' hr hb => ⟨hS.trans (hb.mono hS.size), Flf.of hb, (updF_self _ _ _).trans hr⟩)
    · intro f w1 hS hf
      generalize hA : putAll _ _ f = A
      have h49 : f 4 = aggC (minusC (putC (putC zC (shaU tX)) (shaU tY)) (putC zC (shaU tX))) := hf 4 (by decide)
      have r49 : A.eval (.tmp 49) = aggC (minusC (putC (putC zC (shaU tX)) (shaU tY)) (putC zC (shaU tX))) := by rw [← hA]; exact putAll_at f 49 4 slotsCk6 a0 sbCk6 (by kernel_rfl) zsz rfl h49
      exact flw_call rfl rfl 12 #[(.tmp 49)] _ rfl #[aggC (minusC (putC (putC zC (shaU tX)) (shaU tY)) (putC zC (shaU tX)))] (by simp only [List.map_toArray, List.map_cons, List.map_nil, r49]) (fun w => by kernel_rfl) (fun v _ => v = .tuple #[.agg (encU (shaU tY)).toArray, .bool true, .bool true]) (as_any (pure_any (minusC (putC (putC zC (shaU tX)) (shaU tY)) (putC zC (shaU tX))) w1 (HL.out.keep (HB.out.trans (hS.mono HB.out.size)) HSZ.out)) ((congrArg pureV (ck_min _ _)).trans (pure_put _))) (fun v w' hr hb => ⟨hS.trans (hb.mono hS.size), Flf.of hb, (updF_self _ _ _).trans hr⟩)
    · intro f w1 hS hf
      generalize hA : putAll _ _ f = A
      have h50 : f 5 = .tuple #[.agg (encU (shaU tY)).toArray, .bool true, .bool true] := hf 5 (by decide)
      have r50 : A.eval (.tmp 50) = .tuple #[.agg (encU (shaU tY)).toArray, .bool true, .bool true] := by rw [← hA]; exact putAll_at f 50 5 slotsCk6 a0 sbCk6 (by kernel_rfl) zsz rfl h50
      exact flw_val rfl rfl (.tuple #[.agg (encU (shaU tY)).toArray, .bool true, .bool true]) (ex_move (.tmp 50) rfl r50) hS (Flf.refl _) (updF_self _ _ _)
    · intro f w1 hS hf
      generalize hA : putAll _ _ f = A
      have h44 : f 6 = .tuple #[.agg (encU (shaU tY)).toArray, .bool true, .bool true] := hf 6 (by decide)
      have r44 : A.eval (.tmp 44) = .tuple #[.agg (encU (shaU tY)).toArray, .bool true, .bool true] := by rw [← hA]; exact putAll_at f 44 6 slotsCk6 a0 sbCk6 (by kernel_rfl) zsz rfl h44
      exact flw_val rfl rfl (.agg (encU (shaU tY)).toArray) (ex_extract (.tmp 44) 0 rfl r44 rfl) hS (Flf.refl _) (updF_self _ _ _)
    · intro f w1 hS hf
      generalize hA : putAll _ _ f = A
      have h44 : f 6 = .tuple #[.agg (encU (shaU tY)).toArray, .bool true, .bool true] := hf 6 (by decide)
      have r44 : A.eval (.tmp 44) = .tuple #[.agg (encU (shaU tY)).toArray, .bool true, .bool true] := by rw [← hA]; exact putAll_at f 44 6 slotsCk6 a0 sbCk6 (by kernel_rfl) zsz rfl h44
      exact flw_val rfl rfl (.bool true) (ex_extract (.tmp 44) 1 rfl r44 rfl) hS (Flf.refl _) (updF_self _ _ _)
    · intro f w1 hS hf
      generalize hA : putAll _ _ f = A
      have h44 : f 6 = .tuple #[.agg (encU (shaU tY)).toArray, .bool true, .bool true] := hf 6 (by decide)
      have r44 : A.eval (.tmp 44) = .tuple #[.agg (encU (shaU tY)).toArray, .bool true, .bool true] := by rw [← hA]; exact putAll_at f 44 6 slotsCk6 a0 sbCk6 (by kernel_rfl) zsz rfl h44
      exact flw_val rfl rfl (.bool true) (ex_extract (.tmp 44) 2 rfl r44 rfl) hS (Flf.refl _) (updF_self _ _ _)
    · intro f w1 hS hf
      generalize hA : putAll _ _ f = A
      exact flw_wp rfl rfl (fun K hK => wp_alloc_row 24 rfl (.agg (encU zS).toArray) (fun w => by kernel_rfl) (hK _ _ (hS.alloc hS.size _) (Flf.al _ _) ⟨_, _, updF_self _ _ _, hS.size, Has.made' _ _ _ _ rfl, by simp only [encU_len]⟩))
    · intro f w1 hS hf
      generalize hA : putAll _ _ f = A
      have e7 : A.eval (.tmp 7) = f 10 := by rw [← hA]; exact putAll_at f 7 10 slotsCk6 a0 sbCk6 (by kernel_rfl) zsz rfl rfl
      have h51 : f 7 = .agg (encU (shaU tY)).toArray := hf 7 (by decide)
      have r51 : A.eval (.tmp 51) = .agg (encU (shaU tY)).toArray := by rw [← hA]; exact putAll_at f 51 7 slotsCk6 a0 sbCk6 (by kernel_rfl) zsz rfl h51
      obtain ⟨g, old, hv, hg, ho, hol⟩ := hf 10 (by decide)
      exact flw_wp rfl rfl (fun K hK => wp_store_row 24 (.tmp 7) (.tmp 51) rfl g (encU (shaU tY)).toArray (e7.trans hv) r51 24 old.toArray ho (by rw [List.size_toArray, encU_len]; kernel_rfl) (by rw [List.size_toArray, List.size_toArray]; exact hol) (encU_all _) (hK _ _ (below_row hS hg _) (Flf.store ho hol) ⟨g, (updF_ne f _ (by decide)).trans hv, hg, ho.rowl _⟩))
    · intro f w1 hS hf
      generalize hA : putAll _ _ f = A
      have h52 : f 8 = .bool true := hf 8 (by decide)
      have r52 : A.eval (.tmp 52) = .bool true := by rw [← hA]; exact putAll_at f 52 8 slotsCk6 a0 sbCk6 (by kernel_rfl) zsz rfl h52
      exact flw_val rfl rfl (.bool true) (ex_assign (.tmp 52) rfl r52) hS (Flf.refl _) (updF_self _ _ _)
    · intro f w1 hS hf
      generalize hA : putAll _ _ f = A
      have h53 : f 9 = .bool true := hf 9 (by decide)
      have r53 : A.eval (.tmp 53) = .bool true := by rw [← hA]; exact putAll_at f 53 9 slotsCk6 a0 sbCk6 (by kernel_rfl) zsz rfl h53
      exact flw_val rfl rfl (.bool true) (ex_assign (.tmp 53) rfl r53) hS (Flf.refl _) (updF_self _ _ _)
  intro f u6 hS hf hap
  have h0 : f 0 = aggC (putC (putC zC (shaU tX)) (shaU tY)) := hf 0 (by decide)
  have h1 : f 1 = aggC zC := hf 1 (by decide)
  have h2 : f 2 = .agg (encU (shaU tX)).toArray := hf 2 (by decide)
  have h3 : f 3 = aggC (putC zC (shaU tX)) := hf 3 (by decide)
  have h4 : f 4 = aggC (minusC (putC (putC zC (shaU tX)) (shaU tY)) (putC zC (shaU tX))) := hf 4 (by decide)
  have h5 : f 5 = .tuple #[.agg (encU (shaU tY)).toArray, .bool true, .bool true] := hf 5 (by decide)
  have h6 : f 6 = .tuple #[.agg (encU (shaU tY)).toArray, .bool true, .bool true] := hf 6 (by decide)
  have h7 : f 7 = .agg (encU (shaU tY)).toArray := hf 7 (by decide)
  have h8 : f 8 = .bool true := hf 8 (by decide)
  have h9 : f 9 = .bool true := hf 9 (by decide)
  obtain ⟨b6_10, h10, hgb10, hhb10⟩ := hf 11 (by decide)
  have h12 : f 12 = .bool true := hf 12 (by decide)
  have h13 : f 13 = .bool true := hf 13 (by decide)
  clear hf hap
  clear zsz z3 z1
  subst ha0
  simp only [slotsCk6, putAll, h0, h1, h2, h3, h4, h5, h6, h7, h8, h9, h10, h12, h13, Act.put, List.setIfInBounds_toArray, List.set_cons_zero, List.set_cons_succ]
  clear h0 h1 h2 h3 h4 h5 h6 h7 h8 h9 h10 h12 h13
  generalize u6 = w6 at *
  refine tl_nilN ?_
  replace HX_b3_8 := Lib.hid (HX_b3_8.out.keepB hS)
  replace HX_b3_9 := Lib.hid (HX_b3_9.out.keepB hS)
  replace HX_b4_5 := Lib.hid (HX_b4_5.out.keepB hS)
  replace HX_b5_6 := Lib.hid (HX_b5_6.out.keepB hS)
  replace HB := Lib.hid (HB.out.trans (hS.mono HB.out.size))
  clear hS
  have HX_b6_10 : Hid (Has w6 b6_10 24 (encU (shaU tY))) := Lib.hid hhb10
  clear hhb10 hgb10
  go_upto_region 7 with fail
  refine wp_act (fun a0 ha0 => ?_)
  have zsz : a0.tmps.size = 149 := by rw [ha0]; rfl
  have z1 : a0.eval (.tmp 1) = .pointer (some ⟨b3_8, 0, none⟩) := by rw [ha0]; rfl
  refine wp_region_flwo (E := Flz) [] slotsCk7 waitCk7 [Fct.val Flz 0 (aggC zC), Fct.val Flz 1 (.agg (encU (shaU tX)).toArray), Fct.val Flz 2 (aggC (takeC zC (shaU tX))), Fct.val Flz 3 (.tuple #[.agg (encU (shaU tX)).toArray, .bool false, .bool true]), Fct.val Flz 4 (.tuple #[.agg (encU (shaU tX)).toArray, .bool false, .bool true]), Fct.val Flz 5 (.agg (encU (shaU tX)).toArray), Fct.val Flz 6 (.bool false), Fct.val Flz 7 (.bool true), Fct.obj 8 (fun v w => ∃ g, v = .pointer (some ⟨g, 0, none⟩) ∧ w6.heap.size ≤ g ∧ Has w g 24 (encU zS)) (fun _ _ _ ⟨g, a, b, c⟩ he => ⟨g, a, b, c.flz he (by decide)⟩)] (fun w' => Below w6.heap.size w6 w') _ 9 3 chkCk7 (by kernel_rfl) rfl (by kernel_rfl) (by decide) (Below.refl _ _) ?_ ?_
  · refine lt_s (lt_s (lt_s (lt_s (lt_s (lt_s (lt_s (lt_s (lt_s (lt_0) ?_) ?_) ?_) ?_) ?_) ?_) ?_) ?_) ?_
    · intro f w1 hS hf
      generalize hA : putAll _ _ f = A
      exact flw_val rfl rfl (aggC zC) (ex_build 28 _ rfl (encC zC).toArray [] (by kernel_rfl) (builtC0)) hS (Flz.refl _) (updF_self _ _ _)
    · intro f w1 hS hf
      generalize hA : putAll _ _ f = A
      have r1 : A.eval (.tmp 1) = .pointer (some ⟨b3_8, 0, none⟩) := by rw [← hA]; exact putAll_off f 1 slotsCk7 a0 (by kernel_rfl) z1
      exact flw_val rfl rfl (.agg (encU (shaU tX)).toArray) (ex_loadR 24 (.tmp 1) rfl ⟨b3_8, 0, none⟩ r1 (fun _ => by kernel_rfl) (encU (shaU tX)) (by rw [encU_len]; kernel_rfl) ((HX_b3_8.out.keepB hS).part (encU (shaU tX)) 0 (encU_all' (shaU tX)))) hS (Flz.refl _) (updF_self _ _ _)
    · intro f w1 hS hf
      generalize hA : putAll _ _ f = A
      have h55 : f 0 = aggC zC := hf 0 (by decide)
      have r55 : A.eval (.tmp 55) = aggC zC := by rw [← hA]; exact putAll_at f 55 0 slotsCk7 a0 sbCk7 (by kernel_rfl) zsz rfl h55
      have h56 : f 1 = .agg (encU (shaU tX)).toArray := hf 1 (by decide)
      have r56 : A.eval (.tmp 56) = .agg (encU (shaU tX)).toArray := by rw [← hA]; exact putAll_at f 56 1 slotsCk7 a0 sbCk7 (by kernel_rfl) zsz rfl h56
      exact flw_call rfl rfl 14 #[(.tmp 55), (.tmp 56)] _ rfl #[aggC zC, .agg (encU (shaU tX)).toArray] (by simp only [List.map_toArray, List.map_cons, List.map_nil, r55, r56]) (fun w => by kernel_rfl) (fun v _ => v = aggC (takeC zC (shaU tX))) (take_any zC (shaU tX) w1 (HL.out.keep (HB.out.trans (hS.mono HB.out.size)) HSZ.out)) (fun v w' hr hb => ⟨hS.trans (hb.mono hS.size), Flz.of hb, (updF_self _ _ _).trans hr⟩)
    · intro f w1 hS hf
      generalize hA : putAll _ _ f = A
      have h57 : f 2 = aggC (takeC zC (shaU tX)) := hf 2 (by decide)
      have r57 : A.eval (.tmp 57) = aggC (takeC zC (shaU tX)) := by rw [← hA]; exact putAll_at f 57 2 slotsCk7 a0 sbCk7 (by kernel_rfl) zsz rfl h57
      exact flw_call rfl rfl 12 #[(.tmp 57)] _ rfl #[aggC (takeC zC (shaU tX))] (by simp only [List.map_toArray, List.map_cons, List.map_nil, r57]) (fun w => by kernel_rfl) (fun v _ => v = .tuple #[.agg (encU (shaU tX)).toArray, .bool false, .bool true]) (as_any (pure_any (takeC zC (shaU tX)) w1 (HL.out.keep (HB.out.trans (hS.mono HB.out.size)) HSZ.out)) (pure_take _)) (fun v w' hr hb => ⟨hS.trans (hb.mono hS.size), Flz.of hb, (updF_self _ _ _).trans hr⟩)
    · intro f w1 hS hf
      generalize hA : putAll _ _ f = A
      have h58 : f 3 = .tuple #[.agg (encU (shaU tX)).toArray, .bool false, .bool true] := hf 3 (by decide)
      have r58 : A.eval (.tmp 58) = .tuple #[.agg (encU (shaU tX)).toArray, .bool false, .bool true] := by rw [← hA]; exact putAll_at f 58 3 slotsCk7 a0 sbCk7 (by kernel_rfl) zsz rfl h58
      exact flw_val rfl rfl (.tuple #[.agg (encU (shaU tX)).toArray, .bool false, .bool true]) (ex_move (.tmp 58) rfl r58) hS (Flz.refl _) (updF_self _ _ _)
    · intro f w1 hS hf
      generalize hA : putAll _ _ f = A
      have h54 : f 4 = .tuple #[.agg (encU (shaU tX)).toArray, .bool false, .bool true] := hf 4 (by decide)
      have r54 : A.eval (.tmp 54) = .tuple #[.agg (encU (shaU tX)).toArray, .bool false, .bool true] := by rw [← hA]; exact putAll_at f 54 4 slotsCk7 a0 sbCk7 (by kernel_rfl) zsz rfl h54
      exact flw_val rfl rfl (.agg (encU (shaU tX)).toArray) (ex_extract (.tmp 54) 0 rfl r54 rfl) hS (Flz.refl _) (updF_self _ _ _)
    · intro f w1 hS hf
      generalize hA : putAll _ _ f = A
      have h54 : f 4 = .tuple #[.agg (encU (shaU tX)).toArray, .bool false, .bool true] := hf 4 (by decide)
      have r54 : A.eval (.tmp 54) = .tuple #[.agg (encU (shaU tX)).toArray, .bool false, .bool true] := by rw [← hA]; exact putAll_at f 54 4 slotsCk7 a0 sbCk7 (by kernel_rfl) zsz rfl h54
      exact flw_val rfl rfl (.bool false) (ex_extract (.tmp 54) 1 rfl r54 rfl) hS (Flz.refl _) (updF_self _ _ _)
    · intro f w1 hS hf
      generalize hA : putAll _ _ f = A
      have h54 : f 4 = .tuple #[.agg (encU (shaU tX)).toArray, .bool false, .bool true] := hf 4 (by decide)
      have r54 : A.eval (.tmp 54) = .tuple #[.agg (encU (shaU tX)).toArray, .bool false, .bool true] := by rw [← hA]; exact putAll_at f 54 4 slotsCk7 a0 sbCk7 (by kernel_rfl) zsz rfl h54
      exact flw_val rfl rfl (.bool true) (ex_extract (.tmp 54) 2 rfl r54 rfl) hS (Flz.refl _) (updF_self _ _ _)
    · intro f w1 hS hf
      generalize hA : putAll _ _ f = A
      exact flw_wp rfl rfl (fun K hK => wp_alloc_row 24 rfl (.agg (encU zS).toArray) (fun w => by kernel_rfl) (hK _ _ (hS.alloc hS.size _) (Flz.al _ _) ⟨_, updF_self _ _ _, hS.size, Has.made' _ _ _ _ rfl⟩))
  intro f u7 hS hf hap
  have h0 : f 0 = aggC zC := hf 0 (by decide)
  have h1 : f 1 = .agg (encU (shaU tX)).toArray := hf 1 (by decide)
  have h2 : f 2 = aggC (takeC zC (shaU tX)) := hf 2 (by decide)
  have h3 : f 3 = .tuple #[.agg (encU (shaU tX)).toArray, .bool false, .bool true] := hf 3 (by decide)
  have h4 : f 4 = .tuple #[.agg (encU (shaU tX)).toArray, .bool false, .bool true] := hf 4 (by decide)
  have h5 : f 5 = .agg (encU (shaU tX)).toArray := hf 5 (by decide)
  have h6 : f 6 = .bool false := hf 6 (by decide)
  have h7 : f 7 = .bool true := hf 7 (by decide)
  obtain ⟨b7_8, h8, hgb8, hhb8⟩ := hf 8 (by decide)
  clear hf hap
  clear zsz z1
  subst ha0
  simp only [slotsCk7, putAll, h0, h1, h2, h3, h4, h5, h6, h7, h8, Act.put, List.setIfInBounds_toArray, List.set_cons_zero, List.set_cons_succ]
  clear h0 h1 h2 h3 h4 h5 h6 h7 h8
  refine tl_store rfl (by kernel_rfl) 24 (.tmp 10) (.tmp 59) rfl b7_8 (encU (shaU tX)) _ rfl rfl _ hhb8 (by rw [encU_len]; kernel_rfl) (by simp only [encU_len]) (encU_all _) ?_
  intro w7 hp8 hbl hot
  replace hS := hS.trans (hbl _ hgb8)
  clear hbl hot hhb8
  try simp only [Act.put]
  refine tl_pure rfl (by kernel_rfl) (.bool false) (ex_assign (.tmp 60) rfl rfl) ?_
  try simp only [Act.put, List.setIfInBounds_toArray, List.set_cons_zero, List.set_cons_succ]
  refine tl_pure rfl (by kernel_rfl) (.bool true) (ex_assign (.tmp 61) rfl rfl) ?_
  try simp only [Act.put, List.setIfInBounds_toArray, List.set_cons_zero, List.set_cons_succ]
  refine tl_nil ?_
  replace HX_b3_8 := Lib.hid (HX_b3_8.out.keepB hS)
  replace HX_b3_9 := Lib.hid (HX_b3_9.out.keepB hS)
  replace HX_b4_5 := Lib.hid (HX_b4_5.out.keepB hS)
  replace HX_b5_6 := Lib.hid (HX_b5_6.out.keepB hS)
  replace HX_b6_10 := Lib.hid (HX_b6_10.out.keepB hS)
  replace HB := Lib.hid (HB.out.trans (hS.mono HB.out.size))
  clear hS
  have HX_b7_8 : Hid (Has w7 b7_8 24 (encU (shaU tX))) := Lib.hid hp8
  clear hp8 hgb8
  go_upto_region 8 with fail
  refine wp_act (fun a0 ha0 => ?_)
  have zsz : a0.tmps.size = 149 := by rw [ha0]; rfl
  refine wp_region_flwo (E := Flz) [] slotsCk8 waitCk8 [Fct.val Flz 0 (aggC zC), Fct.val Flz 1 (.tuple #[.agg (encU zS).toArray, .bool false, .bool false]), Fct.val Flz 2 (.tuple #[.agg (encU zS).toArray, .bool false, .bool false]), Fct.val Flz 3 (.agg (encU zS).toArray), Fct.val Flz 4 (.bool false), Fct.val Flz 5 (.bool false), Fct.obj 6 (fun v w => ∃ g, v = .pointer (some ⟨g, 0, none⟩) ∧ w7.heap.size ≤ g ∧ Has w g 24 (encU zS)) (fun _ _ _ ⟨g, a, b, c⟩ he => ⟨g, a, b, c.flz he (by decide)⟩)] (fun w' => Below w7.heap.size w7 w') _ 7 3 chkCk8 (by kernel_rfl) rfl (by kernel_rfl) (by decide) (Below.refl _ _) ?_ ?_
  · refine lt_s (lt_s (lt_s (lt_s (lt_s (lt_s (lt_s (lt_0) ?_) ?_) ?_) ?_) ?_) ?_) ?_
    · intro f w1 hS hf
      generalize hA : putAll _ _ f = A
      exact flw_val rfl rfl (aggC zC) (ex_build 28 _ rfl (encC zC).toArray [] (by kernel_rfl) (builtC0)) hS (Flz.refl _) (updF_self _ _ _)
    · intro f w1 hS hf
      generalize hA : putAll _ _ f = A
      have h63 : f 0 = aggC zC := hf 0 (by decide)
      have r63 : A.eval (.tmp 63) = aggC zC := by rw [← hA]; exact putAll_at f 63 0 slotsCk8 a0 sbCk8 (by kernel_rfl) zsz rfl h63
      exact flw_call rfl rfl 12 #[(.tmp 63)] _ rfl #[aggC zC] (by simp only [List.map_toArray, List.map_cons, List.map_nil, r63]) (fun w => by kernel_rfl) (fun v _ => v = .tuple #[.agg (encU zS).toArray, .bool false, .bool false]) (as_any (pure_any zC w1 (HL.out.keep (HB.out.trans (hS.mono HB.out.size)) HSZ.out)) (ck_off (by decide) (by decide))) (fun v w' hr hb => ⟨hS.trans (hb.mono hS.size), Flz.of hb, (updF_self _ _ _).trans hr⟩)
    · intro f w1 hS hf
      generalize hA : putAll _ _ f = A
      have h64 : f 1 = .tuple #[.agg (encU zS).toArray, .bool false, .bool false] := hf 1 (by decide)
      have r64 : A.eval (.tmp 64) = .tuple #[.agg (encU zS).toArray, .bool false, .bool false] := by rw [← hA]; exact putAll_at f 64 1 slotsCk8 a0 sbCk8 (by kernel_rfl) zsz rfl h64
      exact flw_val rfl rfl (.tuple #[.agg (encU zS).toArray, .bool false, .bool false]) (ex_move (.tmp 64) rfl r64) hS (Flz.refl _) (updF_self _ _ _)
    · intro f w1 hS hf
      generalize hA : putAll _ _ f = A
      have h62 : f 2 = .tuple #[.agg (encU zS).toArray, .bool false, .bool false] := hf 2 (by decide)
      have r62 : A.eval (.tmp 62) = .tuple #[.agg (encU zS).toArray, .bool false, .bool false] := by rw [← hA]; exact putAll_at f 62 2 slotsCk8 a0 sbCk8 (by kernel_rfl) zsz rfl h62
      exact flw_val rfl rfl (.agg (encU zS).toArray) (ex_extract (.tmp 62) 0 rfl r62 rfl) hS (Flz.refl _) (updF_self _ _ _)
    · intro f w1 hS hf
      generalize hA : putAll _ _ f = A
      have h62 : f 2 = .tuple #[.agg (encU zS).toArray, .bool false, .bool false] := hf 2 (by decide)
      have r62 : A.eval (.tmp 62) = .tuple #[.agg (encU zS).toArray, .bool false, .bool false] := by rw [← hA]; exact putAll_at f 62 2 slotsCk8 a0 sbCk8 (by kernel_rfl) zsz rfl h62
      exact flw_val rfl rfl (.bool false) (ex_extract (.tmp 62) 1 rfl r62 rfl) hS (Flz.refl _) (updF_self _ _ _)
    · intro f w1 hS hf
      generalize hA : putAll _ _ f = A
      have h62 : f 2 = .tuple #[.agg (encU zS).toArray, .bool false, .bool false] := hf 2 (by decide)
      have r62 : A.eval (.tmp 62) = .tuple #[.agg (encU zS).toArray, .bool false, .bool false] := by rw [← hA]; exact putAll_at f 62 2 slotsCk8 a0 sbCk8 (by kernel_rfl) zsz rfl h62
      exact flw_val rfl rfl (.bool false) (ex_extract (.tmp 62) 2 rfl r62 rfl) hS (Flz.refl _) (updF_self _ _ _)
    · intro f w1 hS hf
      generalize hA : putAll _ _ f = A
      exact flw_wp rfl rfl (fun K hK => wp_alloc_row 24 rfl (.agg (encU zS).toArray) (fun w => by kernel_rfl) (hK _ _ (hS.alloc hS.size _) (Flz.al _ _) ⟨_, updF_self _ _ _, hS.size, Has.made' _ _ _ _ rfl⟩))
  intro f u8 hS hf hap
  have h0 : f 0 = aggC zC := hf 0 (by decide)
  have h1 : f 1 = .tuple #[.agg (encU zS).toArray, .bool false, .bool false] := hf 1 (by decide)
  have h2 : f 2 = .tuple #[.agg (encU zS).toArray, .bool false, .bool false] := hf 2 (by decide)
  have h3 : f 3 = .agg (encU zS).toArray := hf 3 (by decide)
  have h4 : f 4 = .bool false := hf 4 (by decide)
  have h5 : f 5 = .bool false := hf 5 (by decide)
  obtain ⟨b8_6, h6, hgb6, hhb6⟩ := hf 6 (by decide)
  clear hf hap
  clear zsz
  subst ha0
  simp only [slotsCk8, putAll, h0, h1, h2, h3, h4, h5, h6, Act.put, List.setIfInBounds_toArray, List.set_cons_zero, List.set_cons_succ]
  clear h0 h1 h2 h3 h4 h5 h6
  refine tl_store rfl (by kernel_rfl) 24 (.tmp 13) (.tmp 65) rfl b8_6 (encU zS) _ rfl rfl _ hhb6 (by rw [encU_len]; kernel_rfl) (by simp only [encU_len]) (encU_all _) ?_
  intro w8 hp6 hbl hot
  replace hS := hS.trans (hbl _ hgb6)
  clear hbl hot hhb6
  try simp only [Act.put]
  refine tl_pure rfl (by kernel_rfl) (.bool false) (ex_assign (.tmp 66) rfl rfl) ?_
  try simp only [Act.put, List.setIfInBounds_toArray, List.set_cons_zero, List.set_cons_succ]
  refine tl_pure rfl (by kernel_rfl) (.bool false) (ex_assign (.tmp 67) rfl rfl) ?_
  try simp only [Act.put, List.setIfInBounds_toArray, List.set_cons_zero, List.set_cons_succ]
  refine tl_nil ?_
  replace HX_b3_8 := Lib.hid (HX_b3_8.out.keepB hS)
  replace HX_b3_9 := Lib.hid (HX_b3_9.out.keepB hS)
  replace HX_b4_5 := Lib.hid (HX_b4_5.out.keepB hS)
  replace HX_b5_6 := Lib.hid (HX_b5_6.out.keepB hS)
  replace HX_b6_10 := Lib.hid (HX_b6_10.out.keepB hS)
  replace HX_b7_8 := Lib.hid (HX_b7_8.out.keepB hS)
  replace HB := Lib.hid (HB.out.trans (hS.mono HB.out.size))
  clear hS
  have HX_b8_6 : Hid (Has w8 b8_6 24 (encU zS)) := Lib.hid hp6
  clear hp6 hgb6
  go_upto_region 9 with fail
  refine wp_act (fun a0 ha0 => ?_)
  have zsz : a0.tmps.size = 149 := by rw [ha0]; rfl
  have z1 : a0.eval (.tmp 1) = .pointer (some ⟨b3_8, 0, none⟩) := by rw [ha0]; rfl
  refine wp_region_flwo (E := Flz) [] slotsCk9 waitCk9 [Fct.val Flz 0 (.agg (encU (shaU tX)).toArray), Fct.val Flz 1 (aggC ((1, shaU tX, zS))), Fct.val Flz 2 (.tuple #[.agg (encU zS).toArray, .bool false, .bool false]), Fct.val Flz 3 (.tuple #[.agg (encU zS).toArray, .bool false, .bool false]), Fct.val Flz 4 (.agg (encU zS).toArray), Fct.val Flz 5 (.bool false), Fct.val Flz 6 (.bool false), Fct.obj 7 (fun v w => ∃ g, v = .pointer (some ⟨g, 0, none⟩) ∧ w8.heap.size ≤ g ∧ Has w g 24 (encU zS)) (fun _ _ _ ⟨g, a, b, c⟩ he => ⟨g, a, b, c.flz he (by decide)⟩)] (fun w' => Below w8.heap.size w8 w') _ 8 3 chkCk9 (by kernel_rfl) rfl (by kernel_rfl) (by decide) (Below.refl _ _) ?_ ?_
  · refine lt_s (lt_s (lt_s (lt_s (lt_s (lt_s (lt_s (lt_s (lt_0) ?_) ?_) ?_) ?_) ?_) ?_) ?_) ?_
    · intro f w1 hS hf
      generalize hA : putAll _ _ f = A
      have r1 : A.eval (.tmp 1) = .pointer (some ⟨b3_8, 0, none⟩) := by rw [← hA]; exact putAll_off f 1 slotsCk9 a0 (by kernel_rfl) z1
      exact flw_val rfl rfl (.agg (encU (shaU tX)).toArray) (ex_loadR 24 (.tmp 1) rfl ⟨b3_8, 0, none⟩ r1 (fun _ => by kernel_rfl) (encU (shaU tX)) (by rw [encU_len]; kernel_rfl) ((HX_b3_8.out.keepB hS).part (encU (shaU tX)) 0 (encU_all' (shaU tX)))) hS (Flz.refl _) (updF_self _ _ _)
    · intro f w1 hS hf
      generalize hA : putAll _ _ f = A
      have h69 : f 0 = .agg (encU (shaU tX)).toArray := hf 0 (by decide)
      have r69 : A.eval (.tmp 69) = .agg (encU (shaU tX)).toArray := by rw [← hA]; exact putAll_at f 69 0 slotsCk9 a0 sbCk9 (by kernel_rfl) zsz rfl h69
      exact flw_val rfl rfl (aggC ((1, shaU tX, zS))) (ex_build 28 _ rfl (encC ((1, shaU tX, zS))).toArray [(0, .int .i64 1), (1, .agg (encU (shaU tX)).toArray)] (by simp only [List.map_toArray, List.map_cons, List.map_nil, r69]; rfl) (builtC2 1 (shaU tX))) hS (Flz.refl _) (updF_self _ _ _)
    · intro f w1 hS hf
      generalize hA : putAll _ _ f = A
      have h70 : f 1 = aggC ((1, shaU tX, zS)) := hf 1 (by decide)
      have r70 : A.eval (.tmp 70) = aggC ((1, shaU tX, zS)) := by rw [← hA]; exact putAll_at f 70 1 slotsCk9 a0 sbCk9 (by kernel_rfl) zsz rfl h70
      exact flw_call rfl rfl 12 #[(.tmp 70)] _ rfl #[aggC ((1, shaU tX, zS))] (by simp only [List.map_toArray, List.map_cons, List.map_nil, r70]) (fun w => by kernel_rfl) (fun v _ => v = .tuple #[.agg (encU zS).toArray, .bool false, .bool false]) (as_any (pure_any ((1, shaU tX, zS)) w1 (HL.out.keep (HB.out.trans (hS.mono HB.out.size)) HSZ.out)) (pureV_off (by simp [isPure, chkS, Ne.symm ck_chk]))) (fun v w' hr hb => ⟨hS.trans (hb.mono hS.size), Flz.of hb, (updF_self _ _ _).trans hr⟩)
    · intro f w1 hS hf
      generalize hA : putAll _ _ f = A
      have h71 : f 2 = .tuple #[.agg (encU zS).toArray, .bool false, .bool false] := hf 2 (by decide)
      have r71 : A.eval (.tmp 71) = .tuple #[.agg (encU zS).toArray, .bool false, .bool false] := by rw [← hA]; exact putAll_at f 71 2 slotsCk9 a0 sbCk9 (by kernel_rfl) zsz rfl h71
      exact flw_val rfl rfl (.tuple #[.agg (encU zS).toArray, .bool false, .bool false]) (ex_move (.tmp 71) rfl r71) hS (Flz.refl _) (updF_self _ _ _)
    · intro f w1 hS hf
      generalize hA : putAll _ _ f = A
      have h68 : f 3 = .tuple #[.agg (encU zS).toArray, .bool false, .bool false] := hf 3 (by decide)
      have r68 : A.eval (.tmp 68) = .tuple #[.agg (encU zS).toArray, .bool false, .bool false] := by rw [← hA]; exact putAll_at f 68 3 slotsCk9 a0 sbCk9 (by kernel_rfl) zsz rfl h68
      exact flw_val rfl rfl (.agg (encU zS).toArray) (ex_extract (.tmp 68) 0 rfl r68 rfl) hS (Flz.refl _) (updF_self _ _ _)
    · intro f w1 hS hf
      generalize hA : putAll _ _ f = A
      have h68 : f 3 = .tuple #[.agg (encU zS).toArray, .bool false, .bool false] := hf 3 (by decide)
      have r68 : A.eval (.tmp 68) = .tuple #[.agg (encU zS).toArray, .bool false, .bool false] := by rw [← hA]; exact putAll_at f 68 3 slotsCk9 a0 sbCk9 (by kernel_rfl) zsz rfl h68
      exact flw_val rfl rfl (.bool false) (ex_extract (.tmp 68) 1 rfl r68 rfl) hS (Flz.refl _) (updF_self _ _ _)
    · intro f w1 hS hf
      generalize hA : putAll _ _ f = A
      have h68 : f 3 = .tuple #[.agg (encU zS).toArray, .bool false, .bool false] := hf 3 (by decide)
      have r68 : A.eval (.tmp 68) = .tuple #[.agg (encU zS).toArray, .bool false, .bool false] := by rw [← hA]; exact putAll_at f 68 3 slotsCk9 a0 sbCk9 (by kernel_rfl) zsz rfl h68
      exact flw_val rfl rfl (.bool false) (ex_extract (.tmp 68) 2 rfl r68 rfl) hS (Flz.refl _) (updF_self _ _ _)
    · intro f w1 hS hf
      generalize hA : putAll _ _ f = A
      exact flw_wp rfl rfl (fun K hK => wp_alloc_row 24 rfl (.agg (encU zS).toArray) (fun w => by kernel_rfl) (hK _ _ (hS.alloc hS.size _) (Flz.al _ _) ⟨_, updF_self _ _ _, hS.size, Has.made' _ _ _ _ rfl⟩))
  intro f u9 hS hf hap
  have h0 : f 0 = .agg (encU (shaU tX)).toArray := hf 0 (by decide)
  have h1 : f 1 = aggC ((1, shaU tX, zS)) := hf 1 (by decide)
  have h2 : f 2 = .tuple #[.agg (encU zS).toArray, .bool false, .bool false] := hf 2 (by decide)
  have h3 : f 3 = .tuple #[.agg (encU zS).toArray, .bool false, .bool false] := hf 3 (by decide)
  have h4 : f 4 = .agg (encU zS).toArray := hf 4 (by decide)
  have h5 : f 5 = .bool false := hf 5 (by decide)
  have h6 : f 6 = .bool false := hf 6 (by decide)
  obtain ⟨b9_7, h7, hgb7, hhb7⟩ := hf 7 (by decide)
  clear hf hap
  clear zsz z1
  subst ha0
  simp only [slotsCk9, putAll, h0, h1, h2, h3, h4, h5, h6, h7, Act.put, List.setIfInBounds_toArray, List.set_cons_zero, List.set_cons_succ]
  clear h0 h1 h2 h3 h4 h5 h6 h7
  refine tl_store rfl (by kernel_rfl) 24 (.tmp 16) (.tmp 72) rfl b9_7 (encU zS) _ rfl rfl _ hhb7 (by rw [encU_len]; kernel_rfl) (by simp only [encU_len]) (encU_all _) ?_
  intro w9 hp7 hbl hot
  replace hS := hS.trans (hbl _ hgb7)
  clear hbl hot hhb7
  try simp only [Act.put]
  refine tl_pure rfl (by kernel_rfl) (.bool false) (ex_assign (.tmp 73) rfl rfl) ?_
  try simp only [Act.put, List.setIfInBounds_toArray, List.set_cons_zero, List.set_cons_succ]
  refine tl_pure rfl (by kernel_rfl) (.bool false) (ex_assign (.tmp 74) rfl rfl) ?_
  try simp only [Act.put, List.setIfInBounds_toArray, List.set_cons_zero, List.set_cons_succ]
  refine tl_nil ?_
  replace HX_b3_8 := Lib.hid (HX_b3_8.out.keepB hS)
  replace HX_b3_9 := Lib.hid (HX_b3_9.out.keepB hS)
  replace HX_b4_5 := Lib.hid (HX_b4_5.out.keepB hS)
  replace HX_b5_6 := Lib.hid (HX_b5_6.out.keepB hS)
  replace HX_b6_10 := Lib.hid (HX_b6_10.out.keepB hS)
  replace HX_b7_8 := Lib.hid (HX_b7_8.out.keepB hS)
  replace HX_b8_6 := Lib.hid (HX_b8_6.out.keepB hS)
  replace HB := Lib.hid (HB.out.trans (hS.mono HB.out.size))
  clear hS
  have HX_b9_7 : Hid (Has w9 b9_7 24 (encU zS)) := Lib.hid hp7
  clear hp7 hgb7
  go_upto_region 10 with fail
  have HST : Hid (Below w9.heap.size w9 w9.drew) := Lib.hid (Below.refl _ _).drew
  replace HX_b3_8 := Lib.hid (HX_b3_8.out.keepB HST.out)
  replace HX_b3_9 := Lib.hid (HX_b3_9.out.keepB HST.out)
  replace HX_b4_5 := Lib.hid (HX_b4_5.out.keepB HST.out)
  replace HX_b5_6 := Lib.hid (HX_b5_6.out.keepB HST.out)
  replace HX_b6_10 := Lib.hid (HX_b6_10.out.keepB HST.out)
  replace HX_b7_8 := Lib.hid (HX_b7_8.out.keepB HST.out)
  replace HX_b8_6 := Lib.hid (HX_b8_6.out.keepB HST.out)
  replace HX_b9_7 := Lib.hid (HX_b9_7.out.keepB HST.out)
  replace HB := Lib.hid (HB.out.trans (HST.out.mono HB.out.size))
  clear HST
  refine wp_act (fun a0 ha0 => ?_)
  have zsz : a0.tmps.size = 149 := by rw [ha0]; rfl
  have z3 : a0.eval (.tmp 3) = .pointer (some ⟨b4_5, 0, none⟩) := by rw [ha0]; rfl
  have z1 : a0.eval (.tmp 1) = .pointer (some ⟨b3_8, 0, none⟩) := by rw [ha0]; rfl
  have z2 : a0.eval (.tmp 2) = .pointer (some ⟨b3_9, 0, none⟩) := by rw [ha0]; rfl
  refine wp_region_flw (E := (Flf 24 (encU zS))) [] slotsCk10 waitCk10 [Fct.val (Flf 24 (encU zS)) 0 (aggC (putC (putC zC (shaU tX)) (shaU tY))), Fct.val (Flf 24 (encU zS)) 1 (.agg (encU (shaU tX)).toArray), Fct.val (Flf 24 (encU zS)) 2 (aggC (putC (putC (putC zC (shaU tX)) (shaU tY)) (shaU tX))), Fct.val (Flf 24 (encU zS)) 3 (.agg (encU (shaU tY)).toArray), Fct.val (Flf 24 (encU zS)) 4 (aggC (takeC (putC (putC (putC zC (shaU tX)) (shaU tY)) (shaU tX)) (shaU tY))), Fct.val (Flf 24 (encU zS)) 5 (.tuple #[.agg (encU zS).toArray, .bool false, .bool false]), Fct.val (Flf 24 (encU zS)) 6 (.tuple #[.agg (encU zS).toArray, .bool false, .bool false]), Fct.val (Flf 24 (encU zS)) 7 (.agg (encU zS).toArray), Fct.val (Flf 24 (encU zS)) 8 (.bool false), Fct.val (Flf 24 (encU zS)) 9 (.bool false), Fct.shape 24 (encU zS) 10 w9.drew.heap.size, Fct.held 24 (encU zS) 10 w9.drew.heap.size, Fct.val (Flf 24 (encU zS)) 12 (.bool false), Fct.val (Flf 24 (encU zS)) 13 (.bool false)] (fun w' => Below w9.drew.heap.size w9.drew w') _ 14 0 chkCk10 (by kernel_rfl) rfl (by kernel_rfl) (by kernel_rfl) (by decide) (Below.refl _ _) ?_ ?_
  · refine lt_s (lt_s (lt_s (lt_s (lt_s (lt_s (lt_s (lt_s (lt_s (lt_s (lt_s (lt_s (lt_s (lt_s (lt_0) ?_) ?_) ?_) ?_) ?_) ?_) ?_) ?_) ?_) ?_) ?_) ?_) ?_) ?_
    · intro f w1 hS hf
      generalize hA : putAll _ _ f = A
      have r3 : A.eval (.tmp 3) = .pointer (some ⟨b4_5, 0, none⟩) := by rw [← hA]; exact putAll_off f 3 slotsCk10 a0 (by kernel_rfl) z3
      exact flw_val rfl rfl (aggC (putC (putC zC (shaU tX)) (shaU tY))) (ex_loadR 28 (.tmp 3) rfl ⟨b4_5, 0, none⟩ r3 (fun _ => by kernel_rfl) (encC (putC (putC zC (shaU tX)) (shaU tY))) (by rw [encC_len]; kernel_rfl) ((HX_b4_5.out.keepB hS).part (encC (putC (putC zC (shaU tX)) (shaU tY))) 0 (encC_all (putC (putC zC (shaU tX)) (shaU tY))))) hS (Flf.refl _) (updF_self _ _ _)
    · intro f w1 hS hf
      generalize hA : putAll _ _ f = A
      have r1 : A.eval (.tmp 1) = .pointer (some ⟨b3_8, 0, none⟩) := by rw [← hA]; exact putAll_off f 1 slotsCk10 a0 (by kernel_rfl) z1
      exact flw_val rfl rfl (.agg (encU (shaU tX)).toArray) (ex_loadR 24 (.tmp 1) rfl ⟨b3_8, 0, none⟩ r1 (fun _ => by kernel_rfl) (encU (shaU tX)) (by rw [encU_len]; kernel_rfl) ((HX_b3_8.out.keepB hS).part (encU (shaU tX)) 0 (encU_all' (shaU tX)))) hS (Flf.refl _) (updF_self _ _ _)
    · intro f w1 hS hf
      generalize hA : putAll _ _ f = A
      have h76 : f 0 = aggC (putC (putC zC (shaU tX)) (shaU tY)) := hf 0 (by decide)
      have r76 : A.eval (.tmp 76) = aggC (putC (putC zC (shaU tX)) (shaU tY)) := by rw [← hA]; exact putAll_at f 76 0 slotsCk10 a0 sbCk10 (by kernel_rfl) zsz rfl h76
      have h77 : f 1 = .agg (encU (shaU tX)).toArray := hf 1 (by decide)
      have r77 : A.eval (.tmp 77) = .agg (encU (shaU tX)).toArray := by rw [← hA]; exact putAll_at f 77 1 slotsCk10 a0 sbCk10 (by kernel_rfl) zsz rfl h77
      exact flw_call rfl rfl 11 #[(.tmp 76), (.tmp 77)] _ rfl #[aggC (putC (putC zC (shaU tX)) (shaU tY)), .agg (encU (shaU tX)).toArray] (by simp only [List.map_toArray, List.map_cons, List.map_nil, r76, r77]) (fun w => by kernel_rfl) (fun v _ => v = aggC (putC (putC (putC zC (shaU tX)) (shaU tY)) (shaU tX))) (put_any (putC (putC zC (shaU tX)) (shaU tY)) (shaU tX) w1 (HL.out.keep (HB.out.trans (hS.mono HB.out.size)) HSZ.out)) (fun v w' hr hb => ⟨hS.trans (hb.mono hS.size), Flf.of hb, (updF_self _ _ _).trans hr⟩)
    · intro f w1 hS hf
      generalize hA : putAll _ _ f = A
      have r2 : A.eval (.tmp 2) = .pointer (some ⟨b3_9, 0, none⟩) := by rw [← hA]; exact putAll_off f 2 slotsCk10 a0 (by kernel_rfl) z2
      exact flw_val rfl rfl (.agg (encU (shaU tY)).toArray) (ex_loadR 24 (.tmp 2) rfl ⟨b3_9, 0, none⟩ r2 (fun _ => by kernel_rfl) (encU (shaU tY)) (by rw [encU_len]; kernel_rfl) ((HX_b3_9.out.keepB hS).part (encU (shaU tY)) 0 (encU_all' (shaU tY)))) hS (Flf.refl _) (updF_self _ _ _)
    · intro f w1 hS hf
      generalize hA : putAll _ _ f = A
      have h78 : f 2 = aggC (putC (putC (putC zC (shaU tX)) (shaU tY)) (shaU tX)) := hf 2 (by decide)
      have r78 : A.eval (.tmp 78) = aggC (putC (putC (putC zC (shaU tX)) (shaU tY)) (shaU tX)) := by rw [← hA]; exact putAll_at f 78 2 slotsCk10 a0 sbCk10 (by kernel_rfl) zsz rfl h78
      have h79 : f 3 = .agg (encU (shaU tY)).toArray := hf 3 (by decide)
      have r79 : A.eval (.tmp 79) = .agg (encU (shaU tY)).toArray := by rw [← hA]; exact putAll_at f 79 3 slotsCk10 a0 sbCk10 (by kernel_rfl) zsz rfl h79
      exact flw_call rfl rfl 14 #[(.tmp 78), (.tmp 79)] _ rfl #[aggC (putC (putC (putC zC (shaU tX)) (shaU tY)) (shaU tX)), .agg (encU (shaU tY)).toArray] (by simp only [List.map_toArray, List.map_cons, List.map_nil, r78, r79]) (fun w => by kernel_rfl) (fun v _ => v = aggC (takeC (putC (putC (putC zC (shaU tX)) (shaU tY)) (shaU tX)) (shaU tY))) (take_any (putC (putC (putC zC (shaU tX)) (shaU tY)) (shaU tX)) (shaU tY) w1 (HL.out.keep (HB.out.trans (hS.mono HB.out.size)) HSZ.out)) (fun v w' hr hb => ⟨hS.trans (hb.mono hS.size), Flf.of hb, (updF_self _ _ _).trans hr⟩)
    · intro f w1 hS hf
      generalize hA : putAll _ _ f = A
      have h80 : f 4 = aggC (takeC (putC (putC (putC zC (shaU tX)) (shaU tY)) (shaU tX)) (shaU tY)) := hf 4 (by decide)
      have r80 : A.eval (.tmp 80) = aggC (takeC (putC (putC (putC zC (shaU tX)) (shaU tY)) (shaU tX)) (shaU tY)) := by rw [← hA]; exact putAll_at f 80 4 slotsCk10 a0 sbCk10 (by kernel_rfl) zsz rfl h80
      exact flw_call rfl rfl 12 #[(.tmp 80)] _ rfl #[aggC (takeC (putC (putC (putC zC (shaU tX)) (shaU tY)) (shaU tX)) (shaU tY))] (by simp only [List.map_toArray, List.map_cons, List.map_nil, r80]) (fun w => by kernel_rfl) (fun v _ => v = .tuple #[.agg (encU zS).toArray, .bool false, .bool false]) (as_any (pure_any (takeC (putC (putC (putC zC (shaU tX)) (shaU tY)) (shaU tX)) (shaU tY)) w1 (HL.out.keep (HB.out.trans (hS.mono HB.out.size)) HSZ.out)) (ck_off (by rw [ck_three]; decide) (by rw [ck_three]; decide))) (fun v w' hr hb => ⟨hS.trans (hb.mono hS.size), Flf.of hb, (updF_self _ _ _).trans hr⟩)
    · intro f w1 hS hf
      generalize hA : putAll _ _ f = A
      have h81 : f 5 = .tuple #[.agg (encU zS).toArray, .bool false, .bool false] := hf 5 (by decide)
      have r81 : A.eval (.tmp 81) = .tuple #[.agg (encU zS).toArray, .bool false, .bool false] := by rw [← hA]; exact putAll_at f 81 5 slotsCk10 a0 sbCk10 (by kernel_rfl) zsz rfl h81
      exact flw_val rfl rfl (.tuple #[.agg (encU zS).toArray, .bool false, .bool false]) (ex_move (.tmp 81) rfl r81) hS (Flf.refl _) (updF_self _ _ _)
    · intro f w1 hS hf
      generalize hA : putAll _ _ f = A
      have h75 : f 6 = .tuple #[.agg (encU zS).toArray, .bool false, .bool false] := hf 6 (by decide)
      have r75 : A.eval (.tmp 75) = .tuple #[.agg (encU zS).toArray, .bool false, .bool false] := by rw [← hA]; exact putAll_at f 75 6 slotsCk10 a0 sbCk10 (by kernel_rfl) zsz rfl h75
      exact flw_val rfl rfl (.agg (encU zS).toArray) (ex_extract (.tmp 75) 0 rfl r75 rfl) hS (Flf.refl _) (updF_self _ _ _)
    · intro f w1 hS hf
      generalize hA : putAll _ _ f = A
      have h75 : f 6 = .tuple #[.agg (encU zS).toArray, .bool false, .bool false] := hf 6 (by decide)
      have r75 : A.eval (.tmp 75) = .tuple #[.agg (encU zS).toArray, .bool false, .bool false] := by rw [← hA]; exact putAll_at f 75 6 slotsCk10 a0 sbCk10 (by kernel_rfl) zsz rfl h75
      exact flw_val rfl rfl (.bool false) (ex_extract (.tmp 75) 1 rfl r75 rfl) hS (Flf.refl _) (updF_self _ _ _)
    · intro f w1 hS hf
      generalize hA : putAll _ _ f = A
      have h75 : f 6 = .tuple #[.agg (encU zS).toArray, .bool false, .bool false] := hf 6 (by decide)
      have r75 : A.eval (.tmp 75) = .tuple #[.agg (encU zS).toArray, .bool false, .bool false] := by rw [← hA]; exact putAll_at f 75 6 slotsCk10 a0 sbCk10 (by kernel_rfl) zsz rfl h75
      exact flw_val rfl rfl (.bool false) (ex_extract (.tmp 75) 2 rfl r75 rfl) hS (Flf.refl _) (updF_self _ _ _)
    · intro f w1 hS hf
      generalize hA : putAll _ _ f = A
      exact flw_wp rfl rfl (fun K hK => wp_alloc_row 24 rfl (.agg (encU zS).toArray) (fun w => by kernel_rfl) (hK _ _ (hS.alloc hS.size _) (Flf.al _ _) ⟨_, _, updF_self _ _ _, hS.size, Has.made' _ _ _ _ rfl, by simp only [encU_len]⟩))
    · intro f w1 hS hf
      generalize hA : putAll _ _ f = A
      have e19 : A.eval (.tmp 19) = f 10 := by rw [← hA]; exact putAll_at f 19 10 slotsCk10 a0 sbCk10 (by kernel_rfl) zsz rfl rfl
      have h82 : f 7 = .agg (encU zS).toArray := hf 7 (by decide)
      have r82 : A.eval (.tmp 82) = .agg (encU zS).toArray := by rw [← hA]; exact putAll_at f 82 7 slotsCk10 a0 sbCk10 (by kernel_rfl) zsz rfl h82
      obtain ⟨g, old, hv, hg, ho, hol⟩ := hf 10 (by decide)
      exact flw_wp rfl rfl (fun K hK => wp_store_row 24 (.tmp 19) (.tmp 82) rfl g (encU zS).toArray (e19.trans hv) r82 24 old.toArray ho (by rw [List.size_toArray, encU_len]; kernel_rfl) (by rw [List.size_toArray, List.size_toArray]; exact hol) (encU_all _) (hK _ _ (below_row hS hg _) (Flf.store ho hol) ⟨g, (updF_ne f _ (by decide)).trans hv, hg, ho.rowl _⟩))
    · intro f w1 hS hf
      generalize hA : putAll _ _ f = A
      have h83 : f 8 = .bool false := hf 8 (by decide)
      have r83 : A.eval (.tmp 83) = .bool false := by rw [← hA]; exact putAll_at f 83 8 slotsCk10 a0 sbCk10 (by kernel_rfl) zsz rfl h83
      exact flw_val rfl rfl (.bool false) (ex_assign (.tmp 83) rfl r83) hS (Flf.refl _) (updF_self _ _ _)
    · intro f w1 hS hf
      generalize hA : putAll _ _ f = A
      have h84 : f 9 = .bool false := hf 9 (by decide)
      have r84 : A.eval (.tmp 84) = .bool false := by rw [← hA]; exact putAll_at f 84 9 slotsCk10 a0 sbCk10 (by kernel_rfl) zsz rfl h84
      exact flw_val rfl rfl (.bool false) (ex_assign (.tmp 84) rfl r84) hS (Flf.refl _) (updF_self _ _ _)
  intro f u10 hS hf hap
  have h0 : f 0 = aggC (putC (putC zC (shaU tX)) (shaU tY)) := hf 0 (by decide)
  have h1 : f 1 = .agg (encU (shaU tX)).toArray := hf 1 (by decide)
  have h2 : f 2 = aggC (putC (putC (putC zC (shaU tX)) (shaU tY)) (shaU tX)) := hf 2 (by decide)
  have h3 : f 3 = .agg (encU (shaU tY)).toArray := hf 3 (by decide)
  have h4 : f 4 = aggC (takeC (putC (putC (putC zC (shaU tX)) (shaU tY)) (shaU tX)) (shaU tY)) := hf 4 (by decide)
  have h5 : f 5 = .tuple #[.agg (encU zS).toArray, .bool false, .bool false] := hf 5 (by decide)
  have h6 : f 6 = .tuple #[.agg (encU zS).toArray, .bool false, .bool false] := hf 6 (by decide)
  have h7 : f 7 = .agg (encU zS).toArray := hf 7 (by decide)
  have h8 : f 8 = .bool false := hf 8 (by decide)
  have h9 : f 9 = .bool false := hf 9 (by decide)
  obtain ⟨b10_10, h10, hgb10, hhb10⟩ := hf 11 (by decide)
  have h12 : f 12 = .bool false := hf 12 (by decide)
  have h13 : f 13 = .bool false := hf 13 (by decide)
  clear hf hap
  clear zsz z3 z1 z2
  subst ha0
  simp only [slotsCk10, putAll, h0, h1, h2, h3, h4, h5, h6, h7, h8, h9, h10, h12, h13, Act.put, List.setIfInBounds_toArray, List.set_cons_zero, List.set_cons_succ]
  clear h0 h1 h2 h3 h4 h5 h6 h7 h8 h9 h10 h12 h13
  generalize u10 = w10 at *
  refine tl_nilN ?_
  replace HX_b3_8 := Lib.hid (HX_b3_8.out.keepB hS)
  replace HX_b3_9 := Lib.hid (HX_b3_9.out.keepB hS)
  replace HX_b4_5 := Lib.hid (HX_b4_5.out.keepB hS)
  replace HX_b5_6 := Lib.hid (HX_b5_6.out.keepB hS)
  replace HX_b6_10 := Lib.hid (HX_b6_10.out.keepB hS)
  replace HX_b7_8 := Lib.hid (HX_b7_8.out.keepB hS)
  replace HX_b8_6 := Lib.hid (HX_b8_6.out.keepB hS)
  replace HX_b9_7 := Lib.hid (HX_b9_7.out.keepB hS)
  replace HB := Lib.hid (HB.out.trans (hS.mono HB.out.size))
  clear hS
  have HX_b10_10 : Hid (Has w10 b10_10 24 (encU zS)) := Lib.hid hhb10
  clear hhb10 hgb10
  go_upto_region 11 with fail
  refine wp_act (fun a0 ha0 => ?_)
  have zsz : a0.tmps.size = 149 := by rw [ha0]; rfl
  have z1 : a0.eval (.tmp 1) = .pointer (some ⟨b3_8, 0, none⟩) := by rw [ha0]; rfl
  refine wp_region_flwo (E := Flz) [] slotsCk11 waitCk11 [Fct.val Flz 0 (aggC (((-9223372036854775808), zS, zS))), Fct.val Flz 1 (.agg (encU (shaU tX)).toArray), Fct.val Flz 2 (aggC (takeC (((-9223372036854775808), zS, zS)) (shaU tX))), Fct.obj 3 (fun v w => ∃ g, v = .pointer (some ⟨g, 0, none⟩) ∧ w10.heap.size ≤ g ∧ Has w g 28 (encC zC)) (fun _ _ _ ⟨g, a, b, c⟩ he => ⟨g, a, b, c.flz he (by decide)⟩)] (fun w' => Below w10.heap.size w10 w') _ 4 1 chkCk11 (by kernel_rfl) rfl (by kernel_rfl) (by decide) (Below.refl _ _) ?_ ?_
  · refine lt_s (lt_s (lt_s (lt_s (lt_0) ?_) ?_) ?_) ?_
    · intro f w1 hS hf
      generalize hA : putAll _ _ f = A
      exact flw_val rfl rfl (aggC (((-9223372036854775808), zS, zS))) (ex_build 28 _ rfl (encC (((-9223372036854775808), zS, zS))).toArray [(0, .int .i64 ((-9223372036854775808)))] (by kernel_rfl) (builtC1 ((-9223372036854775808)))) hS (Flz.refl _) (updF_self _ _ _)
    · intro f w1 hS hf
      generalize hA : putAll _ _ f = A
      have r1 : A.eval (.tmp 1) = .pointer (some ⟨b3_8, 0, none⟩) := by rw [← hA]; exact putAll_off f 1 slotsCk11 a0 (by kernel_rfl) z1
      exact flw_val rfl rfl (.agg (encU (shaU tX)).toArray) (ex_loadR 24 (.tmp 1) rfl ⟨b3_8, 0, none⟩ r1 (fun _ => by kernel_rfl) (encU (shaU tX)) (by rw [encU_len]; kernel_rfl) ((HX_b3_8.out.keepB hS).part (encU (shaU tX)) 0 (encU_all' (shaU tX)))) hS (Flz.refl _) (updF_self _ _ _)
    · intro f w1 hS hf
      generalize hA : putAll _ _ f = A
      have h85 : f 0 = aggC (((-9223372036854775808), zS, zS)) := hf 0 (by decide)
      have r85 : A.eval (.tmp 85) = aggC (((-9223372036854775808), zS, zS)) := by rw [← hA]; exact putAll_at f 85 0 slotsCk11 a0 sbCk11 (by kernel_rfl) zsz rfl h85
      have h86 : f 1 = .agg (encU (shaU tX)).toArray := hf 1 (by decide)
      have r86 : A.eval (.tmp 86) = .agg (encU (shaU tX)).toArray := by rw [← hA]; exact putAll_at f 86 1 slotsCk11 a0 sbCk11 (by kernel_rfl) zsz rfl h86
      exact flw_call rfl rfl 14 #[(.tmp 85), (.tmp 86)] _ rfl #[aggC (((-9223372036854775808), zS, zS)), .agg (encU (shaU tX)).toArray] (by simp only [List.map_toArray, List.map_cons, List.map_nil, r85, r86]) (fun w => by kernel_rfl) (fun v _ => v = aggC (takeC (((-9223372036854775808), zS, zS)) (shaU tX))) (take_any (((-9223372036854775808), zS, zS)) (shaU tX) w1 (HL.out.keep (HB.out.trans (hS.mono HB.out.size)) HSZ.out)) (fun v w' hr hb => ⟨hS.trans (hb.mono hS.size), Flz.of hb, (updF_self _ _ _).trans hr⟩)
    · intro f w1 hS hf
      generalize hA : putAll _ _ f = A
      exact flw_wp rfl rfl (fun K hK => wp_alloc_row 28 rfl (aggC zC) (fun w => by kernel_rfl) (hK _ _ (hS.alloc hS.size _) (Flz.al _ _) ⟨_, updF_self _ _ _, hS.size, Has.made' _ _ _ _ rfl⟩))
  intro f u11 hS hf hap
  have h0 : f 0 = aggC (((-9223372036854775808), zS, zS)) := hf 0 (by decide)
  have h1 : f 1 = .agg (encU (shaU tX)).toArray := hf 1 (by decide)
  have h2 : f 2 = aggC (takeC (((-9223372036854775808), zS, zS)) (shaU tX)) := hf 2 (by decide)
  obtain ⟨b11_3, h3, hgb3, hhb3⟩ := hf 3 (by decide)
  clear hf hap
  clear zsz z1
  subst ha0
  simp only [slotsCk11, putAll, h0, h1, h2, h3, Act.put, List.setIfInBounds_toArray, List.set_cons_zero, List.set_cons_succ]
  clear h0 h1 h2 h3
  refine tl_store rfl (by kernel_rfl) 28 (.tmp 22) (.tmp 87) rfl b11_3 (encC (takeC ((-9223372036854775808), zS, zS) (shaU tX))) _ rfl rfl _ hhb3 (by rw [encC_len]; kernel_rfl) (by simp only [encC_len]) (encC_ones _) ?_
  intro w11 hp3 hbl hot
  replace hS := hS.trans (hbl _ hgb3)
  clear hbl hot hhb3
  try simp only [Act.put]
  refine tl_nil ?_
  replace HX_b3_8 := Lib.hid (HX_b3_8.out.keepB hS)
  replace HX_b3_9 := Lib.hid (HX_b3_9.out.keepB hS)
  replace HX_b4_5 := Lib.hid (HX_b4_5.out.keepB hS)
  replace HX_b5_6 := Lib.hid (HX_b5_6.out.keepB hS)
  replace HX_b6_10 := Lib.hid (HX_b6_10.out.keepB hS)
  replace HX_b7_8 := Lib.hid (HX_b7_8.out.keepB hS)
  replace HX_b8_6 := Lib.hid (HX_b8_6.out.keepB hS)
  replace HX_b9_7 := Lib.hid (HX_b9_7.out.keepB hS)
  replace HX_b10_10 := Lib.hid (HX_b10_10.out.keepB hS)
  replace HB := Lib.hid (HB.out.trans (hS.mono HB.out.size))
  clear hS
  have HX_b11_3 : Hid (Has w11 b11_3 28 (encC (takeC ((-9223372036854775808), zS, zS) (shaU tX)))) := Lib.hid hp3
  clear hp3 hgb3
  go_upto_region 12 with fail
  have HST : Hid (Below w11.heap.size w11 w11.drew) := Lib.hid (Below.refl _ _).drew
  replace HX_b3_8 := Lib.hid (HX_b3_8.out.keepB HST.out)
  replace HX_b3_9 := Lib.hid (HX_b3_9.out.keepB HST.out)
  replace HX_b4_5 := Lib.hid (HX_b4_5.out.keepB HST.out)
  replace HX_b5_6 := Lib.hid (HX_b5_6.out.keepB HST.out)
  replace HX_b6_10 := Lib.hid (HX_b6_10.out.keepB HST.out)
  replace HX_b7_8 := Lib.hid (HX_b7_8.out.keepB HST.out)
  replace HX_b8_6 := Lib.hid (HX_b8_6.out.keepB HST.out)
  replace HX_b9_7 := Lib.hid (HX_b9_7.out.keepB HST.out)
  replace HX_b10_10 := Lib.hid (HX_b10_10.out.keepB HST.out)
  replace HX_b11_3 := Lib.hid (HX_b11_3.out.keepB HST.out)
  replace HB := Lib.hid (HB.out.trans (HST.out.mono HB.out.size))
  clear HST
  refine wp_act (fun a0 ha0 => ?_)
  have zsz : a0.tmps.size = 149 := by rw [ha0]; rfl
  have z6 : a0.eval (.tmp 6) = .bool false := by rw [ha0]; rfl
  have z9 : a0.eval (.tmp 9) = .bool true := by rw [ha0]; rfl
  have z8 : a0.eval (.tmp 8) = .bool true := by rw [ha0]; rfl
  have z7 : a0.eval (.tmp 7) = .pointer (some ⟨b6_10, 0, none⟩) := by rw [ha0]; rfl
  have z2 : a0.eval (.tmp 2) = .pointer (some ⟨b3_9, 0, none⟩) := by rw [ha0]; rfl
  have z12 : a0.eval (.tmp 12) = .bool true := by rw [ha0]; rfl
  have z11 : a0.eval (.tmp 11) = .bool false := by rw [ha0]; rfl
  have z10 : a0.eval (.tmp 10) = .pointer (some ⟨b7_8, 0, none⟩) := by rw [ha0]; rfl
  have z1 : a0.eval (.tmp 1) = .pointer (some ⟨b3_8, 0, none⟩) := by rw [ha0]; rfl
  have z15 : a0.eval (.tmp 15) = .bool false := by rw [ha0]; rfl
  have z18 : a0.eval (.tmp 18) = .bool false := by rw [ha0]; rfl
  have z21 : a0.eval (.tmp 21) = .bool false := by rw [ha0]; rfl
  have z22 : a0.eval (.tmp 22) = .pointer (some ⟨b11_3, 0, none⟩) := by rw [ha0]; rfl
  have z3 : a0.eval (.tmp 3) = .pointer (some ⟨b4_5, 0, none⟩) := by rw [ha0]; rfl
  refine wp_region_flw (E := Flz) [] slotsCk12 waitCk12 [Fct.val Flz 0 (.bool false), Fct.val Flz 1 (.bool true), Fct.val Flz 2 (.bool true), Fct.val Flz 3 (.bool true), Fct.val Flz 4 (.bool true), Fct.val Flz 5 (.bool true), Fct.val Flz 6 (.bool true), Fct.val Flz 7 (.bool true), Fct.val Flz 8 (.bool true), Fct.val Flz 9 (.agg (encU (shaU tY)).toArray), Fct.val Flz 10 (.agg (encU (shaU tY)).toArray), Fct.val Flz 11 (.bool true), Fct.val Flz 12 (.bool true), Fct.val Flz 13 (.bool true), Fct.val Flz 14 (.bool true), Fct.val Flz 15 (.bool true), Fct.val Flz 16 (.bool true), Fct.val Flz 17 (.bool false), Fct.val Flz 18 (.bool true), Fct.val Flz 19 (.bool true), Fct.val Flz 20 (.bool true), Fct.val Flz 21 (.agg (encU (shaU tX)).toArray), Fct.val Flz 22 (.agg (encU (shaU tX)).toArray), Fct.val Flz 23 (.bool true), Fct.val Flz 24 (.bool true), Fct.val Flz 25 (.bool true), Fct.val Flz 26 (.bool false), Fct.val Flz 27 (.bool true), Fct.val Flz 28 (.bool true), Fct.val Flz 29 (.bool true), Fct.val Flz 30 (.bool false), Fct.val Flz 31 (.bool true), Fct.val Flz 32 (.bool true), Fct.val Flz 33 (.bool true), Fct.val Flz 34 (.bool false), Fct.val Flz 35 (.bool true), Fct.val Flz 36 (.bool true), Fct.val Flz 37 (.bool true), Fct.val Flz 38 (.pointer (some ⟨b11_3, 0, none⟩)), Fct.val Flz 39 (.int .i64 ((takeC ((-9223372036854775808), zS, zS) (shaU tX)).1)), Fct.val Flz 40 (.bool true), Fct.val Flz 41 (.bool true), Fct.val Flz 42 (.bool true), Fct.val Flz 43 (.agg (encU (shaU tX)).toArray), Fct.val Flz 44 (.agg (encU (chkS (shaU tX))).toArray), Fct.obj 45 (fun v w => ∃ g, v = .slice (some ⟨g, 0, none⟩) 1 1 ∧ w11.drew.heap.size ≤ g ∧ Cl w g 5 (t67.map u8v)) (fun _ _ _ ⟨g, a, b, c⟩ he => ⟨g, a, b, c.flz he⟩), Fct.val Flz 46 (.slice (some ⟨b3_8, 0, none⟩) 32 32), Fct.obj 47 (fun v w => ∃ g k, v = .slice (some ⟨k, 0, none⟩) 2 2 ∧ Cl w k 26 [.slice (some ⟨g, 0, none⟩) 1 1, .slice (some ⟨b3_8, 0, none⟩) 32 32] ∧ Cl w g 5 (t67.map u8v)) (fun _ _ _ ⟨g, k, a, b, c⟩ he => ⟨g, k, a, b.flz he, c.flz he⟩), Fct.val Flz 48 (.agg (encU (chkS (shaU tX))).toArray), Fct.val Flz 49 (.bool true), Fct.val Flz 50 (.bool true), Fct.val Flz 51 (.bool true), Fct.val Flz 52 (aggC ((1, zS, zS))), Fct.val Flz 53 (.bool false), Fct.val Flz 54 (.bool true), Fct.val Flz 55 (.bool true), Fct.val Flz 56 (.bool true), Fct.val Flz 57 (.pointer (some ⟨b4_5, 0, none⟩)), Fct.val Flz 58 (.int .i64 ((putC (putC zC (shaU tX)) (shaU tY)).1)), Fct.val Flz 59 (.bool true), Fct.val Flz 60 (.bool true), Fct.val Flz 61 (.bool true)] (fun w' => Below w11.drew.heap.size w11.drew w') _ 62 0 chkCk12 (by kernel_rfl) rfl (by kernel_rfl) (by kernel_rfl) (by decide) (Below.refl _ _) ?_ ?_
  · refine lt_s (lt_s (lt_s (lt_s (lt_s (lt_s (lt_s (lt_s (lt_s (lt_s (lt_s (lt_s (lt_s (lt_s (lt_s (lt_s (lt_s (lt_s (lt_s (lt_s (lt_s (lt_s (lt_s (lt_s (lt_s (lt_s (lt_s (lt_s (lt_s (lt_s (lt_s (lt_s (lt_s (lt_s (lt_s (lt_s (lt_s (lt_s (lt_s (lt_s (lt_s (lt_s (lt_s (lt_s (lt_s (lt_s (lt_s (lt_s (lt_s (lt_s (lt_s (lt_s (lt_s (lt_s (lt_s (lt_s (lt_s (lt_s (lt_s (lt_s (lt_s (lt_s (lt_0) ?_) ?_) ?_) ?_) ?_) ?_) ?_) ?_) ?_) ?_) ?_) ?_) ?_) ?_) ?_) ?_) ?_) ?_) ?_) ?_) ?_) ?_) ?_) ?_) ?_) ?_) ?_) ?_) ?_) ?_) ?_) ?_) ?_) ?_) ?_) ?_) ?_) ?_) ?_) ?_) ?_) ?_) ?_) ?_) ?_) ?_) ?_) ?_) ?_) ?_) ?_) ?_) ?_) ?_) ?_) ?_) ?_) ?_) ?_) ?_) ?_) ?_
    · intro f w1 hS hf
      generalize hA : putAll _ _ f = A
      have r6 : A.eval (.tmp 6) = .bool false := by rw [← hA]; exact putAll_off f 6 slotsCk12 a0 (by kernel_rfl) z6
      exact flw_val rfl rfl (.bool false) (ex_move (.tmp 6) rfl r6) hS (Flz.refl _) (updF_self _ _ _)
    · intro f w1 hS hf
      generalize hA : putAll _ _ f = A
      have h88 : f 0 = .bool false := hf 0 (by decide)
      have r88 : A.eval (.tmp 88) = .bool false := by rw [← hA]; exact putAll_at f 88 0 slotsCk12 a0 sbCk12 (by kernel_rfl) zsz rfl h88
      exact flw_val rfl rfl (.bool true) (ex_not _ (.tmp 88) rfl r88) hS (Flz.refl _) (updF_self _ _ _)
    · intro f w1 hS hf
      generalize hA : putAll _ _ f = A
      have h89 : f 1 = .bool true := hf 1 (by decide)
      have r89 : A.eval (.tmp 89) = .bool true := by rw [← hA]; exact putAll_at f 89 1 slotsCk12 a0 sbCk12 (by kernel_rfl) zsz rfl h89
      exact flw_val rfl rfl (.bool true) (ex_move (.tmp 89) rfl r89) hS (Flz.refl _) (updF_self _ _ _)
    · intro f w1 hS hf
      generalize hA : putAll _ _ f = A
      have g90 : f 2 = .bool true := hf 2 (by decide)
      have t90 : A.tmps[90]? = some (.bool true) := by rw [← hA]; exact putAll_g f 90 2 slotsCk12 a0 sbCk12 (by kernel_rfl) zsz rfl g90
      have r9 : A.eval (.tmp 9) = .bool true := by rw [← hA]; exact putAll_off f 9 slotsCk12 a0 (by kernel_rfl) z9
      exact flw_val rfl ((wanted_of rfl 90 rfl t90).trans rfl) (.bool true) (ex_move (.tmp 9) rfl r9) hS (Flz.refl _) (updF_self _ _ _)
    · intro f w1 hS hf
      generalize hA : putAll _ _ f = A
      have h90 : f 2 = .bool true := hf 2 (by decide)
      have r90 : A.eval (.tmp 90) = .bool true := by rw [← hA]; exact putAll_at f 90 2 slotsCk12 a0 sbCk12 (by kernel_rfl) zsz rfl h90
      have h91 : f 3 = .bool true := hf 3 (by decide)
      have r91 : A.eval (.tmp 91) = .bool true := by rw [← hA]; exact putAll_at f 91 3 slotsCk12 a0 sbCk12 (by kernel_rfl) zsz rfl h91
      exact flw_val rfl rfl (.bool true) (ex_pick (.tmp 90) (.tmp 91) _ rfl true r90 ((if_pos rfl).trans r91)) hS (Flz.refl _) (updF_self _ _ _)
    · intro f w1 hS hf
      generalize hA : putAll _ _ f = A
      have h92 : f 4 = .bool true := hf 4 (by decide)
      have r92 : A.eval (.tmp 92) = .bool true := by rw [← hA]; exact putAll_at f 92 4 slotsCk12 a0 sbCk12 (by kernel_rfl) zsz rfl h92
      exact flw_val rfl rfl (.bool true) (ex_move (.tmp 92) rfl r92) hS (Flz.refl _) (updF_self _ _ _)
    · intro f w1 hS hf
      generalize hA : putAll _ _ f = A
      have g93 : f 5 = .bool true := hf 5 (by decide)
      have t93 : A.tmps[93]? = some (.bool true) := by rw [← hA]; exact putAll_g f 93 5 slotsCk12 a0 sbCk12 (by kernel_rfl) zsz rfl g93
      have r8 : A.eval (.tmp 8) = .bool true := by rw [← hA]; exact putAll_off f 8 slotsCk12 a0 (by kernel_rfl) z8
      exact flw_val rfl ((wanted_of rfl 93 rfl t93).trans rfl) (.bool true) (ex_move (.tmp 8) rfl r8) hS (Flz.refl _) (updF_self _ _ _)
    · intro f w1 hS hf
      generalize hA : putAll _ _ f = A
      have h93 : f 5 = .bool true := hf 5 (by decide)
      have r93 : A.eval (.tmp 93) = .bool true := by rw [← hA]; exact putAll_at f 93 5 slotsCk12 a0 sbCk12 (by kernel_rfl) zsz rfl h93
      have h94 : f 6 = .bool true := hf 6 (by decide)
      have r94 : A.eval (.tmp 94) = .bool true := by rw [← hA]; exact putAll_at f 94 6 slotsCk12 a0 sbCk12 (by kernel_rfl) zsz rfl h94
      exact flw_val rfl rfl (.bool true) (ex_pick (.tmp 93) (.tmp 94) _ rfl true r93 ((if_pos rfl).trans r94)) hS (Flz.refl _) (updF_self _ _ _)
    · intro f w1 hS hf
      generalize hA : putAll _ _ f = A
      have h95 : f 7 = .bool true := hf 7 (by decide)
      have r95 : A.eval (.tmp 95) = .bool true := by rw [← hA]; exact putAll_at f 95 7 slotsCk12 a0 sbCk12 (by kernel_rfl) zsz rfl h95
      exact flw_val rfl rfl (.bool true) (ex_move (.tmp 95) rfl r95) hS (Flz.refl _) (updF_self _ _ _)
    · intro f w1 hS hf
      generalize hA : putAll _ _ f = A
      have g96 : f 8 = .bool true := hf 8 (by decide)
      have t96 : A.tmps[96]? = some (.bool true) := by rw [← hA]; exact putAll_g f 96 8 slotsCk12 a0 sbCk12 (by kernel_rfl) zsz rfl g96
      have r7 : A.eval (.tmp 7) = .pointer (some ⟨b6_10, 0, none⟩) := by rw [← hA]; exact putAll_off f 7 slotsCk12 a0 (by kernel_rfl) z7
      exact flw_val rfl ((wanted_of rfl 96 rfl t96).trans rfl) (.agg (encU (shaU tY)).toArray) (ex_loadR 24 (.tmp 7) rfl ⟨b6_10, 0, none⟩ r7 (fun _ => by kernel_rfl) (encU (shaU tY)) (by rw [encU_len]; kernel_rfl) ((HX_b6_10.out.keepB hS).part (encU (shaU tY)) 0 (encU_all' (shaU tY)))) hS (Flz.refl _) (updF_self _ _ _)
    · intro f w1 hS hf
      generalize hA : putAll _ _ f = A
      have g96 : f 8 = .bool true := hf 8 (by decide)
      have t96 : A.tmps[96]? = some (.bool true) := by rw [← hA]; exact putAll_g f 96 8 slotsCk12 a0 sbCk12 (by kernel_rfl) zsz rfl g96
      have r2 : A.eval (.tmp 2) = .pointer (some ⟨b3_9, 0, none⟩) := by rw [← hA]; exact putAll_off f 2 slotsCk12 a0 (by kernel_rfl) z2
      exact flw_val rfl ((wanted_of rfl 96 rfl t96).trans rfl) (.agg (encU (shaU tY)).toArray) (ex_loadR 24 (.tmp 2) rfl ⟨b3_9, 0, none⟩ r2 (fun _ => by kernel_rfl) (encU (shaU tY)) (by rw [encU_len]; kernel_rfl) ((HX_b3_9.out.keepB hS).part (encU (shaU tY)) 0 (encU_all' (shaU tY)))) hS (Flz.refl _) (updF_self _ _ _)
    · intro f w1 hS hf
      generalize hA : putAll _ _ f = A
      have g96 : f 8 = .bool true := hf 8 (by decide)
      have t96 : A.tmps[96]? = some (.bool true) := by rw [← hA]; exact putAll_g f 96 8 slotsCk12 a0 sbCk12 (by kernel_rfl) zsz rfl g96
      have h97 : f 9 = .agg (encU (shaU tY)).toArray := hf 9 (by decide)
      have r97 : A.eval (.tmp 97) = .agg (encU (shaU tY)).toArray := by rw [← hA]; exact putAll_at f 97 9 slotsCk12 a0 sbCk12 (by kernel_rfl) zsz rfl h97
      have h98 : f 10 = .agg (encU (shaU tY)).toArray := hf 10 (by decide)
      have r98 : A.eval (.tmp 98) = .agg (encU (shaU tY)).toArray := by rw [← hA]; exact putAll_at f 98 10 slotsCk12 a0 sbCk12 (by kernel_rfl) zsz rfl h98
      exact flw_val rfl ((wanted_of rfl 96 rfl t96).trans rfl) (.bool true) (Eq.trans (eql_su 24 (.tmp 97) (.tmp 98) _ rfl (shaU tY) (shaU tY) r97 r98 (by kernel_rfl) (by kernel_rfl)) (by rw [(decide_eq_true (rfl : shaU tY = shaU tY))])) hS (Flz.refl _) (updF_self _ _ _)
    · intro f w1 hS hf
      generalize hA : putAll _ _ f = A
      have h96 : f 8 = .bool true := hf 8 (by decide)
      have r96 : A.eval (.tmp 96) = .bool true := by rw [← hA]; exact putAll_at f 96 8 slotsCk12 a0 sbCk12 (by kernel_rfl) zsz rfl h96
      have h99 : f 11 = .bool true := hf 11 (by decide)
      have r99 : A.eval (.tmp 99) = .bool true := by rw [← hA]; exact putAll_at f 99 11 slotsCk12 a0 sbCk12 (by kernel_rfl) zsz rfl h99
      exact flw_val rfl rfl (.bool true) (ex_pick (.tmp 96) (.tmp 99) _ rfl true r96 ((if_pos rfl).trans r99)) hS (Flz.refl _) (updF_self _ _ _)
    · intro f w1 hS hf
      generalize hA : putAll _ _ f = A
      have h100 : f 12 = .bool true := hf 12 (by decide)
      have r100 : A.eval (.tmp 100) = .bool true := by rw [← hA]; exact putAll_at f 100 12 slotsCk12 a0 sbCk12 (by kernel_rfl) zsz rfl h100
      exact flw_val rfl rfl (.bool true) (ex_move (.tmp 100) rfl r100) hS (Flz.refl _) (updF_self _ _ _)
    · intro f w1 hS hf
      generalize hA : putAll _ _ f = A
      have g101 : f 13 = .bool true := hf 13 (by decide)
      have t101 : A.tmps[101]? = some (.bool true) := by rw [← hA]; exact putAll_g f 101 13 slotsCk12 a0 sbCk12 (by kernel_rfl) zsz rfl g101
      have r12 : A.eval (.tmp 12) = .bool true := by rw [← hA]; exact putAll_off f 12 slotsCk12 a0 (by kernel_rfl) z12
      exact flw_val rfl ((wanted_of rfl 101 rfl t101).trans rfl) (.bool true) (ex_move (.tmp 12) rfl r12) hS (Flz.refl _) (updF_self _ _ _)
    · intro f w1 hS hf
      generalize hA : putAll _ _ f = A
      have h101 : f 13 = .bool true := hf 13 (by decide)
      have r101 : A.eval (.tmp 101) = .bool true := by rw [← hA]; exact putAll_at f 101 13 slotsCk12 a0 sbCk12 (by kernel_rfl) zsz rfl h101
      have h102 : f 14 = .bool true := hf 14 (by decide)
      have r102 : A.eval (.tmp 102) = .bool true := by rw [← hA]; exact putAll_at f 102 14 slotsCk12 a0 sbCk12 (by kernel_rfl) zsz rfl h102
      exact flw_val rfl rfl (.bool true) (ex_pick (.tmp 101) (.tmp 102) _ rfl true r101 ((if_pos rfl).trans r102)) hS (Flz.refl _) (updF_self _ _ _)
    · intro f w1 hS hf
      generalize hA : putAll _ _ f = A
      have h103 : f 15 = .bool true := hf 15 (by decide)
      have r103 : A.eval (.tmp 103) = .bool true := by rw [← hA]; exact putAll_at f 103 15 slotsCk12 a0 sbCk12 (by kernel_rfl) zsz rfl h103
      exact flw_val rfl rfl (.bool true) (ex_move (.tmp 103) rfl r103) hS (Flz.refl _) (updF_self _ _ _)
    · intro f w1 hS hf
      generalize hA : putAll _ _ f = A
      have g104 : f 16 = .bool true := hf 16 (by decide)
      have t104 : A.tmps[104]? = some (.bool true) := by rw [← hA]; exact putAll_g f 104 16 slotsCk12 a0 sbCk12 (by kernel_rfl) zsz rfl g104
      have r11 : A.eval (.tmp 11) = .bool false := by rw [← hA]; exact putAll_off f 11 slotsCk12 a0 (by kernel_rfl) z11
      exact flw_val rfl ((wanted_of rfl 104 rfl t104).trans rfl) (.bool false) (ex_move (.tmp 11) rfl r11) hS (Flz.refl _) (updF_self _ _ _)
    · intro f w1 hS hf
      generalize hA : putAll _ _ f = A
      have g104 : f 16 = .bool true := hf 16 (by decide)
      have t104 : A.tmps[104]? = some (.bool true) := by rw [← hA]; exact putAll_g f 104 16 slotsCk12 a0 sbCk12 (by kernel_rfl) zsz rfl g104
      have h105 : f 17 = .bool false := hf 17 (by decide)
      have r105 : A.eval (.tmp 105) = .bool false := by rw [← hA]; exact putAll_at f 105 17 slotsCk12 a0 sbCk12 (by kernel_rfl) zsz rfl h105
      exact flw_val rfl ((wanted_of rfl 104 rfl t104).trans rfl) (.bool true) (ex_not _ (.tmp 105) rfl r105) hS (Flz.refl _) (updF_self _ _ _)
    · intro f w1 hS hf
      generalize hA : putAll _ _ f = A
      have h104 : f 16 = .bool true := hf 16 (by decide)
      have r104 : A.eval (.tmp 104) = .bool true := by rw [← hA]; exact putAll_at f 104 16 slotsCk12 a0 sbCk12 (by kernel_rfl) zsz rfl h104
      have h106 : f 18 = .bool true := hf 18 (by decide)
      have r106 : A.eval (.tmp 106) = .bool true := by rw [← hA]; exact putAll_at f 106 18 slotsCk12 a0 sbCk12 (by kernel_rfl) zsz rfl h106
      exact flw_val rfl rfl (.bool true) (ex_pick (.tmp 104) (.tmp 106) _ rfl true r104 ((if_pos rfl).trans r106)) hS (Flz.refl _) (updF_self _ _ _)
    · intro f w1 hS hf
      generalize hA : putAll _ _ f = A
      have h107 : f 19 = .bool true := hf 19 (by decide)
      have r107 : A.eval (.tmp 107) = .bool true := by rw [← hA]; exact putAll_at f 107 19 slotsCk12 a0 sbCk12 (by kernel_rfl) zsz rfl h107
      exact flw_val rfl rfl (.bool true) (ex_move (.tmp 107) rfl r107) hS (Flz.refl _) (updF_self _ _ _)
    · intro f w1 hS hf
      generalize hA : putAll _ _ f = A
      have g108 : f 20 = .bool true := hf 20 (by decide)
      have t108 : A.tmps[108]? = some (.bool true) := by rw [← hA]; exact putAll_g f 108 20 slotsCk12 a0 sbCk12 (by kernel_rfl) zsz rfl g108
      have r10 : A.eval (.tmp 10) = .pointer (some ⟨b7_8, 0, none⟩) := by rw [← hA]; exact putAll_off f 10 slotsCk12 a0 (by kernel_rfl) z10
      exact flw_val rfl ((wanted_of rfl 108 rfl t108).trans rfl) (.agg (encU (shaU tX)).toArray) (ex_loadR 24 (.tmp 10) rfl ⟨b7_8, 0, none⟩ r10 (fun _ => by kernel_rfl) (encU (shaU tX)) (by rw [encU_len]; kernel_rfl) ((HX_b7_8.out.keepB hS).part (encU (shaU tX)) 0 (encU_all' (shaU tX)))) hS (Flz.refl _) (updF_self _ _ _)
    · intro f w1 hS hf
      generalize hA : putAll _ _ f = A
      have g108 : f 20 = .bool true := hf 20 (by decide)
      have t108 : A.tmps[108]? = some (.bool true) := by rw [← hA]; exact putAll_g f 108 20 slotsCk12 a0 sbCk12 (by kernel_rfl) zsz rfl g108
      have r1 : A.eval (.tmp 1) = .pointer (some ⟨b3_8, 0, none⟩) := by rw [← hA]; exact putAll_off f 1 slotsCk12 a0 (by kernel_rfl) z1
      exact flw_val rfl ((wanted_of rfl 108 rfl t108).trans rfl) (.agg (encU (shaU tX)).toArray) (ex_loadR 24 (.tmp 1) rfl ⟨b3_8, 0, none⟩ r1 (fun _ => by kernel_rfl) (encU (shaU tX)) (by rw [encU_len]; kernel_rfl) ((HX_b3_8.out.keepB hS).part (encU (shaU tX)) 0 (encU_all' (shaU tX)))) hS (Flz.refl _) (updF_self _ _ _)
    · intro f w1 hS hf
      generalize hA : putAll _ _ f = A
      have g108 : f 20 = .bool true := hf 20 (by decide)
      have t108 : A.tmps[108]? = some (.bool true) := by rw [← hA]; exact putAll_g f 108 20 slotsCk12 a0 sbCk12 (by kernel_rfl) zsz rfl g108
      have h109 : f 21 = .agg (encU (shaU tX)).toArray := hf 21 (by decide)
      have r109 : A.eval (.tmp 109) = .agg (encU (shaU tX)).toArray := by rw [← hA]; exact putAll_at f 109 21 slotsCk12 a0 sbCk12 (by kernel_rfl) zsz rfl h109
      have h110 : f 22 = .agg (encU (shaU tX)).toArray := hf 22 (by decide)
      have r110 : A.eval (.tmp 110) = .agg (encU (shaU tX)).toArray := by rw [← hA]; exact putAll_at f 110 22 slotsCk12 a0 sbCk12 (by kernel_rfl) zsz rfl h110
      exact flw_val rfl ((wanted_of rfl 108 rfl t108).trans rfl) (.bool true) (Eq.trans (eql_su 24 (.tmp 109) (.tmp 110) _ rfl (shaU tX) (shaU tX) r109 r110 (by kernel_rfl) (by kernel_rfl)) (by rw [(decide_eq_true (rfl : shaU tX = shaU tX))])) hS (Flz.refl _) (updF_self _ _ _)
    · intro f w1 hS hf
      generalize hA : putAll _ _ f = A
      have h108 : f 20 = .bool true := hf 20 (by decide)
      have r108 : A.eval (.tmp 108) = .bool true := by rw [← hA]; exact putAll_at f 108 20 slotsCk12 a0 sbCk12 (by kernel_rfl) zsz rfl h108
      have h111 : f 23 = .bool true := hf 23 (by decide)
      have r111 : A.eval (.tmp 111) = .bool true := by rw [← hA]; exact putAll_at f 111 23 slotsCk12 a0 sbCk12 (by kernel_rfl) zsz rfl h111
      exact flw_val rfl rfl (.bool true) (ex_pick (.tmp 108) (.tmp 111) _ rfl true r108 ((if_pos rfl).trans r111)) hS (Flz.refl _) (updF_self _ _ _)
    · intro f w1 hS hf
      generalize hA : putAll _ _ f = A
      have h112 : f 24 = .bool true := hf 24 (by decide)
      have r112 : A.eval (.tmp 112) = .bool true := by rw [← hA]; exact putAll_at f 112 24 slotsCk12 a0 sbCk12 (by kernel_rfl) zsz rfl h112
      exact flw_val rfl rfl (.bool true) (ex_move (.tmp 112) rfl r112) hS (Flz.refl _) (updF_self _ _ _)
    · intro f w1 hS hf
      generalize hA : putAll _ _ f = A
      have g113 : f 25 = .bool true := hf 25 (by decide)
      have t113 : A.tmps[113]? = some (.bool true) := by rw [← hA]; exact putAll_g f 113 25 slotsCk12 a0 sbCk12 (by kernel_rfl) zsz rfl g113
      have r15 : A.eval (.tmp 15) = .bool false := by rw [← hA]; exact putAll_off f 15 slotsCk12 a0 (by kernel_rfl) z15
      exact flw_val rfl ((wanted_of rfl 113 rfl t113).trans rfl) (.bool false) (ex_move (.tmp 15) rfl r15) hS (Flz.refl _) (updF_self _ _ _)
    · intro f w1 hS hf
      generalize hA : putAll _ _ f = A
      have g113 : f 25 = .bool true := hf 25 (by decide)
      have t113 : A.tmps[113]? = some (.bool true) := by rw [← hA]; exact putAll_g f 113 25 slotsCk12 a0 sbCk12 (by kernel_rfl) zsz rfl g113
      have h114 : f 26 = .bool false := hf 26 (by decide)
      have r114 : A.eval (.tmp 114) = .bool false := by rw [← hA]; exact putAll_at f 114 26 slotsCk12 a0 sbCk12 (by kernel_rfl) zsz rfl h114
      exact flw_val rfl ((wanted_of rfl 113 rfl t113).trans rfl) (.bool true) (ex_not _ (.tmp 114) rfl r114) hS (Flz.refl _) (updF_self _ _ _)
    · intro f w1 hS hf
      generalize hA : putAll _ _ f = A
      have h113 : f 25 = .bool true := hf 25 (by decide)
      have r113 : A.eval (.tmp 113) = .bool true := by rw [← hA]; exact putAll_at f 113 25 slotsCk12 a0 sbCk12 (by kernel_rfl) zsz rfl h113
      have h115 : f 27 = .bool true := hf 27 (by decide)
      have r115 : A.eval (.tmp 115) = .bool true := by rw [← hA]; exact putAll_at f 115 27 slotsCk12 a0 sbCk12 (by kernel_rfl) zsz rfl h115
      exact flw_val rfl rfl (.bool true) (ex_pick (.tmp 113) (.tmp 115) _ rfl true r113 ((if_pos rfl).trans r115)) hS (Flz.refl _) (updF_self _ _ _)
    · intro f w1 hS hf
      generalize hA : putAll _ _ f = A
      have h116 : f 28 = .bool true := hf 28 (by decide)
      have r116 : A.eval (.tmp 116) = .bool true := by rw [← hA]; exact putAll_at f 116 28 slotsCk12 a0 sbCk12 (by kernel_rfl) zsz rfl h116
      exact flw_val rfl rfl (.bool true) (ex_move (.tmp 116) rfl r116) hS (Flz.refl _) (updF_self _ _ _)
    · intro f w1 hS hf
      generalize hA : putAll _ _ f = A
      have g117 : f 29 = .bool true := hf 29 (by decide)
      have t117 : A.tmps[117]? = some (.bool true) := by rw [← hA]; exact putAll_g f 117 29 slotsCk12 a0 sbCk12 (by kernel_rfl) zsz rfl g117
      have r18 : A.eval (.tmp 18) = .bool false := by rw [← hA]; exact putAll_off f 18 slotsCk12 a0 (by kernel_rfl) z18
      exact flw_val rfl ((wanted_of rfl 117 rfl t117).trans rfl) (.bool false) (ex_move (.tmp 18) rfl r18) hS (Flz.refl _) (updF_self _ _ _)
    · intro f w1 hS hf
      generalize hA : putAll _ _ f = A
      have g117 : f 29 = .bool true := hf 29 (by decide)
      have t117 : A.tmps[117]? = some (.bool true) := by rw [← hA]; exact putAll_g f 117 29 slotsCk12 a0 sbCk12 (by kernel_rfl) zsz rfl g117
      have h118 : f 30 = .bool false := hf 30 (by decide)
      have r118 : A.eval (.tmp 118) = .bool false := by rw [← hA]; exact putAll_at f 118 30 slotsCk12 a0 sbCk12 (by kernel_rfl) zsz rfl h118
      exact flw_val rfl ((wanted_of rfl 117 rfl t117).trans rfl) (.bool true) (ex_not _ (.tmp 118) rfl r118) hS (Flz.refl _) (updF_self _ _ _)
    · intro f w1 hS hf
      generalize hA : putAll _ _ f = A
      have h117 : f 29 = .bool true := hf 29 (by decide)
      have r117 : A.eval (.tmp 117) = .bool true := by rw [← hA]; exact putAll_at f 117 29 slotsCk12 a0 sbCk12 (by kernel_rfl) zsz rfl h117
      have h119 : f 31 = .bool true := hf 31 (by decide)
      have r119 : A.eval (.tmp 119) = .bool true := by rw [← hA]; exact putAll_at f 119 31 slotsCk12 a0 sbCk12 (by kernel_rfl) zsz rfl h119
      exact flw_val rfl rfl (.bool true) (ex_pick (.tmp 117) (.tmp 119) _ rfl true r117 ((if_pos rfl).trans r119)) hS (Flz.refl _) (updF_self _ _ _)
    · intro f w1 hS hf
      generalize hA : putAll _ _ f = A
      have h120 : f 32 = .bool true := hf 32 (by decide)
      have r120 : A.eval (.tmp 120) = .bool true := by rw [← hA]; exact putAll_at f 120 32 slotsCk12 a0 sbCk12 (by kernel_rfl) zsz rfl h120
      exact flw_val rfl rfl (.bool true) (ex_move (.tmp 120) rfl r120) hS (Flz.refl _) (updF_self _ _ _)
    · intro f w1 hS hf
      generalize hA : putAll _ _ f = A
      have g121 : f 33 = .bool true := hf 33 (by decide)
      have t121 : A.tmps[121]? = some (.bool true) := by rw [← hA]; exact putAll_g f 121 33 slotsCk12 a0 sbCk12 (by kernel_rfl) zsz rfl g121
      have r21 : A.eval (.tmp 21) = .bool false := by rw [← hA]; exact putAll_off f 21 slotsCk12 a0 (by kernel_rfl) z21
      exact flw_val rfl ((wanted_of rfl 121 rfl t121).trans rfl) (.bool false) (ex_move (.tmp 21) rfl r21) hS (Flz.refl _) (updF_self _ _ _)
    · intro f w1 hS hf
      generalize hA : putAll _ _ f = A
      have g121 : f 33 = .bool true := hf 33 (by decide)
      have t121 : A.tmps[121]? = some (.bool true) := by rw [← hA]; exact putAll_g f 121 33 slotsCk12 a0 sbCk12 (by kernel_rfl) zsz rfl g121
      have h122 : f 34 = .bool false := hf 34 (by decide)
      have r122 : A.eval (.tmp 122) = .bool false := by rw [← hA]; exact putAll_at f 122 34 slotsCk12 a0 sbCk12 (by kernel_rfl) zsz rfl h122
      exact flw_val rfl ((wanted_of rfl 121 rfl t121).trans rfl) (.bool true) (ex_not _ (.tmp 122) rfl r122) hS (Flz.refl _) (updF_self _ _ _)
    · intro f w1 hS hf
      generalize hA : putAll _ _ f = A
      have h121 : f 33 = .bool true := hf 33 (by decide)
      have r121 : A.eval (.tmp 121) = .bool true := by rw [← hA]; exact putAll_at f 121 33 slotsCk12 a0 sbCk12 (by kernel_rfl) zsz rfl h121
      have h123 : f 35 = .bool true := hf 35 (by decide)
      have r123 : A.eval (.tmp 123) = .bool true := by rw [← hA]; exact putAll_at f 123 35 slotsCk12 a0 sbCk12 (by kernel_rfl) zsz rfl h123
      exact flw_val rfl rfl (.bool true) (ex_pick (.tmp 121) (.tmp 123) _ rfl true r121 ((if_pos rfl).trans r123)) hS (Flz.refl _) (updF_self _ _ _)
    · intro f w1 hS hf
      generalize hA : putAll _ _ f = A
      have h124 : f 36 = .bool true := hf 36 (by decide)
      have r124 : A.eval (.tmp 124) = .bool true := by rw [← hA]; exact putAll_at f 124 36 slotsCk12 a0 sbCk12 (by kernel_rfl) zsz rfl h124
      exact flw_val rfl rfl (.bool true) (ex_move (.tmp 124) rfl r124) hS (Flz.refl _) (updF_self _ _ _)
    · intro f w1 hS hf
      generalize hA : putAll _ _ f = A
      have g125 : f 37 = .bool true := hf 37 (by decide)
      have t125 : A.tmps[125]? = some (.bool true) := by rw [← hA]; exact putAll_g f 125 37 slotsCk12 a0 sbCk12 (by kernel_rfl) zsz rfl g125
      have r22 : A.eval (.tmp 22) = .pointer (some ⟨b11_3, 0, none⟩) := by rw [← hA]; exact putAll_off f 22 slotsCk12 a0 (by kernel_rfl) z22
      exact flw_val rfl ((wanted_of rfl 125 rfl t125).trans rfl) (.pointer (some ⟨b11_3, 0, none⟩)) (fld0C (.tmp 22) rfl b11_3 r22) hS (Flz.refl _) (updF_self _ _ _)
    · intro f w1 hS hf
      generalize hA : putAll _ _ f = A
      have g125 : f 37 = .bool true := hf 37 (by decide)
      have t125 : A.tmps[125]? = some (.bool true) := by rw [← hA]; exact putAll_g f 125 37 slotsCk12 a0 sbCk12 (by kernel_rfl) zsz rfl g125
      have h126 : f 38 = .pointer (some ⟨b11_3, 0, none⟩) := hf 38 (by decide)
      have r126 : A.eval (.tmp 126) = .pointer (some ⟨b11_3, 0, none⟩) := by rw [← hA]; exact putAll_at f 126 38 slotsCk12 a0 sbCk12 (by kernel_rfl) zsz rfl h126
      exact flw_val rfl ((wanted_of rfl 125 rfl t125).trans rfl) (.int .i64 ((takeC ((-9223372036854775808), zS, zS) (shaU tX)).1)) (ex_load1 2 (.tmp 126) rfl ⟨b11_3, 0, none⟩ r126 (fun _ => by kernel_rfl) ((HX_b11_3.out.keepB hS).cellv (encC_0 (takeC ((-9223372036854775808), zS, zS) (shaU tX))))) hS (Flz.refl _) (updF_self _ _ _)
    · intro f w1 hS hf
      generalize hA : putAll _ _ f = A
      have g125 : f 37 = .bool true := hf 37 (by decide)
      have t125 : A.tmps[125]? = some (.bool true) := by rw [← hA]; exact putAll_g f 125 37 slotsCk12 a0 sbCk12 (by kernel_rfl) zsz rfl g125
      have h127 : f 39 = .int .i64 ((takeC ((-9223372036854775808), zS, zS) (shaU tX)).1) := hf 39 (by decide)
      have r127 : A.eval (.tmp 127) = .int .i64 ((takeC ((-9223372036854775808), zS, zS) (shaU tX)).1) := by rw [← hA]; exact putAll_at f 127 39 slotsCk12 a0 sbCk12 (by kernel_rfl) zsz rfl h127
      exact flw_val rfl ((wanted_of rfl 125 rfl t125).trans rfl) (.bool true) (Eq.trans (ex_int .eql _ _ (.tmp 127) _ rfl .i64 ((takeC ((-9223372036854775808), zS, zS) (shaU tX)).1) 9223372036854775807 r127 rfl (.bool (((takeC ((-9223372036854775808), zS, zS) (shaU tX)).1) == (9223372036854775807 : Int))) (fun _ => rfl)) (by rw [(beq_iff_eq.2 (ck_low _))])) hS (Flz.refl _) (updF_self _ _ _)
    · intro f w1 hS hf
      generalize hA : putAll _ _ f = A
      have h125 : f 37 = .bool true := hf 37 (by decide)
      have r125 : A.eval (.tmp 125) = .bool true := by rw [← hA]; exact putAll_at f 125 37 slotsCk12 a0 sbCk12 (by kernel_rfl) zsz rfl h125
      have h128 : f 40 = .bool true := hf 40 (by decide)
      have r128 : A.eval (.tmp 128) = .bool true := by rw [← hA]; exact putAll_at f 128 40 slotsCk12 a0 sbCk12 (by kernel_rfl) zsz rfl h128
      exact flw_val rfl rfl (.bool true) (ex_pick (.tmp 125) (.tmp 128) _ rfl true r125 ((if_pos rfl).trans r128)) hS (Flz.refl _) (updF_self _ _ _)
    · intro f w1 hS hf
      generalize hA : putAll _ _ f = A
      have h129 : f 41 = .bool true := hf 41 (by decide)
      have r129 : A.eval (.tmp 129) = .bool true := by rw [← hA]; exact putAll_at f 129 41 slotsCk12 a0 sbCk12 (by kernel_rfl) zsz rfl h129
      exact flw_val rfl rfl (.bool true) (ex_move (.tmp 129) rfl r129) hS (Flz.refl _) (updF_self _ _ _)
    · intro f w1 hS hf
      generalize hA : putAll _ _ f = A
      have g130 : f 42 = .bool true := hf 42 (by decide)
      have t130 : A.tmps[130]? = some (.bool true) := by rw [← hA]; exact putAll_g f 130 42 slotsCk12 a0 sbCk12 (by kernel_rfl) zsz rfl g130
      have r1 : A.eval (.tmp 1) = .pointer (some ⟨b3_8, 0, none⟩) := by rw [← hA]; exact putAll_off f 1 slotsCk12 a0 (by kernel_rfl) z1
      exact flw_val rfl ((wanted_of rfl 130 rfl t130).trans rfl) (.agg (encU (shaU tX)).toArray) (ex_loadR 24 (.tmp 1) rfl ⟨b3_8, 0, none⟩ r1 (fun _ => by kernel_rfl) (encU (shaU tX)) (by rw [encU_len]; kernel_rfl) ((HX_b3_8.out.keepB hS).part (encU (shaU tX)) 0 (encU_all' (shaU tX)))) hS (Flz.refl _) (updF_self _ _ _)
    · intro f w1 hS hf
      generalize hA : putAll _ _ f = A
      have g130 : f 42 = .bool true := hf 42 (by decide)
      have t130 : A.tmps[130]? = some (.bool true) := by rw [← hA]; exact putAll_g f 130 42 slotsCk12 a0 sbCk12 (by kernel_rfl) zsz rfl g130
      have h131 : f 43 = .agg (encU (shaU tX)).toArray := hf 43 (by decide)
      have r131 : A.eval (.tmp 131) = .agg (encU (shaU tX)).toArray := by rw [← hA]; exact putAll_at f 131 43 slotsCk12 a0 sbCk12 (by kernel_rfl) zsz rfl h131
      exact flw_call rfl ((wanted_of rfl 130 rfl t130).trans rfl) 15 #[(.tmp 131)] _ rfl #[.agg (encU (shaU tX)).toArray] (by simp only [List.map_toArray, List.map_cons, List.map_nil, r131]) (fun w => by kernel_rfl) (fun v _ => v = .agg (encU (chkS (shaU tX))).toArray) (chk_any (shaU tX) w1 (HL.out.keep (HB.out.trans (hS.mono HB.out.size)) HSZ.out)) (fun v w' hr hb => ⟨hS.trans (hb.mono hS.size), Flz.of hb, (updF_self _ _ _).trans hr⟩)
    · intro f w1 hS hf
      generalize hA : putAll _ _ f = A
      have g130 : f 42 = .bool true := hf 42 (by decide)
      have t130 : A.tmps[130]? = some (.bool true) := by rw [← hA]; exact putAll_g f 130 42 slotsCk12 a0 sbCk12 (by kernel_rfl) zsz rfl g130
      exact flw_wp rfl ((wanted_of rfl 130 rfl t130).trans rfl) (fun K hK => wp_lit8 1 _ rfl ((t67.map u8v).toArray) (by decide) (by decide) (by kernel_rfl) (hK _ _ (hS.alloc hS.size _) (Flz.al _ _) ⟨_, updF_self _ _ _, hS.size, Cl.made _ _ _⟩))
    · intro f w1 hS hf
      generalize hA : putAll _ _ f = A
      have g130 : f 42 = .bool true := hf 42 (by decide)
      have t130 : A.tmps[130]? = some (.bool true) := by rw [← hA]; exact putAll_g f 130 42 slotsCk12 a0 sbCk12 (by kernel_rfl) zsz rfl g130
      have r1 : A.eval (.tmp 1) = .pointer (some ⟨b3_8, 0, none⟩) := by rw [← hA]; exact putAll_off f 1 slotsCk12 a0 (by kernel_rfl) z1
      exact flw_val rfl ((wanted_of rfl 130 rfl t130).trans rfl) (.slice (some ⟨b3_8, 0, none⟩) 32 32) (ex_sliceU (.tmp 1) rfl b3_8 r1) hS (Flz.refl _) (updF_self _ _ _)
    · intro f w1 hS hf
      generalize hA : putAll _ _ f = A
      have g130 : f 42 = .bool true := hf 42 (by decide)
      have t130 : A.tmps[130]? = some (.bool true) := by rw [← hA]; exact putAll_g f 130 42 slotsCk12 a0 sbCk12 (by kernel_rfl) zsz rfl g130
      have e133 : A.eval (.tmp 133) = f 45 := by rw [← hA]; exact putAll_at f 133 45 slotsCk12 a0 sbCk12 (by kernel_rfl) zsz rfl rfl
      have h134 : f 46 = .slice (some ⟨b3_8, 0, none⟩) 32 32 := hf 46 (by decide)
      have r134 : A.eval (.tmp 134) = .slice (some ⟨b3_8, 0, none⟩) 32 32 := by rw [← hA]; exact putAll_at f 134 46 slotsCk12 a0 sbCk12 (by kernel_rfl) zsz rfl h134
      obtain ⟨g, hv, hg, hc⟩ := hf 45 (by decide)
      exact flw_wp rfl ((wanted_of rfl 130 rfl t130).trans rfl) (fun K hK => wp_two_bs (.tmp 133) (.tmp 134) rfl (some ⟨g, 0, none⟩) 1 1 (some ⟨b3_8, 0, none⟩) 32 32 (e133.trans hv) r134 (hK _ _ (hS.alloc hS.size _) (Flz.al _ _) ⟨g, _, updF_self _ _ _, Cl.made _ _ [_, _], hc.flz (Flz.al _ _)⟩))
    · intro f w1 hS hf
      generalize hA : putAll _ _ f = A
      have g130 : f 42 = .bool true := hf 42 (by decide)
      have t130 : A.tmps[130]? = some (.bool true) := by rw [← hA]; exact putAll_g f 130 42 slotsCk12 a0 sbCk12 (by kernel_rfl) zsz rfl g130
      have e135 : A.eval (.tmp 135) = f 47 := by rw [← hA]; exact putAll_at f 135 47 slotsCk12 a0 sbCk12 (by kernel_rfl) zsz rfl rfl
      obtain ⟨g, k, hv, hk, hc⟩ := hf 47 (by decide)
      have hlen : (shaU tX).1.length = 32 := (shaU tX).2
      have HOF := of_at2 (x := t67) (y := (shaU tX).1) hk (some ⟨g, 0, none⟩) 1 rfl (by decide) hc.sees (some ⟨b3_8, 0, none⟩) 32 (by rw [hlen]) (Nat.le_of_eq hlen) (Cl.sees (HX_b3_8.out.keepB hS).cl) (by rw [hlen]; decide) (HL.out.keep (HB.out.trans (hS.mono HB.out.size)) HSZ.out)
      exact flw_call rfl ((wanted_of rfl 130 rfl t130).trans rfl) 10 #[(.tmp 135)] _ rfl #[.slice (some ⟨k, 0, none⟩) 2 2] (by simp only [List.map_toArray, List.map_cons, List.map_nil, e135, hv]) (fun w => by kernel_rfl) (fun v _ => v = .agg (encU (chkS (shaU tX))).toArray) HOF (fun v w' hr hb => ⟨hS.trans (hb.mono hS.size), Flz.of hb, (updF_self _ _ _).trans hr⟩)
    · intro f w1 hS hf
      generalize hA : putAll _ _ f = A
      have g130 : f 42 = .bool true := hf 42 (by decide)
      have t130 : A.tmps[130]? = some (.bool true) := by rw [← hA]; exact putAll_g f 130 42 slotsCk12 a0 sbCk12 (by kernel_rfl) zsz rfl g130
      have h132 : f 44 = .agg (encU (chkS (shaU tX))).toArray := hf 44 (by decide)
      have r132 : A.eval (.tmp 132) = .agg (encU (chkS (shaU tX))).toArray := by rw [← hA]; exact putAll_at f 132 44 slotsCk12 a0 sbCk12 (by kernel_rfl) zsz rfl h132
      have h136 : f 48 = .agg (encU (chkS (shaU tX))).toArray := hf 48 (by decide)
      have r136 : A.eval (.tmp 136) = .agg (encU (chkS (shaU tX))).toArray := by rw [← hA]; exact putAll_at f 136 48 slotsCk12 a0 sbCk12 (by kernel_rfl) zsz rfl h136
      exact flw_val rfl ((wanted_of rfl 130 rfl t130).trans rfl) (.bool true) (Eq.trans (eql_su 24 (.tmp 132) (.tmp 136) _ rfl (chkS (shaU tX)) (chkS (shaU tX)) r132 r136 (by kernel_rfl) (by kernel_rfl)) (by rw [(decide_eq_true (rfl : chkS (shaU tX) = chkS (shaU tX)))])) hS (Flz.refl _) (updF_self _ _ _)
    · intro f w1 hS hf
      generalize hA : putAll _ _ f = A
      have h130 : f 42 = .bool true := hf 42 (by decide)
      have r130 : A.eval (.tmp 130) = .bool true := by rw [← hA]; exact putAll_at f 130 42 slotsCk12 a0 sbCk12 (by kernel_rfl) zsz rfl h130
      have h137 : f 49 = .bool true := hf 49 (by decide)
      have r137 : A.eval (.tmp 137) = .bool true := by rw [← hA]; exact putAll_at f 137 49 slotsCk12 a0 sbCk12 (by kernel_rfl) zsz rfl h137
      exact flw_val rfl rfl (.bool true) (ex_pick (.tmp 130) (.tmp 137) _ rfl true r130 ((if_pos rfl).trans r137)) hS (Flz.refl _) (updF_self _ _ _)
    · intro f w1 hS hf
      generalize hA : putAll _ _ f = A
      have h138 : f 50 = .bool true := hf 50 (by decide)
      have r138 : A.eval (.tmp 138) = .bool true := by rw [← hA]; exact putAll_at f 138 50 slotsCk12 a0 sbCk12 (by kernel_rfl) zsz rfl h138
      exact flw_val rfl rfl (.bool true) (ex_move (.tmp 138) rfl r138) hS (Flz.refl _) (updF_self _ _ _)
    · intro f w1 hS hf
      generalize hA : putAll _ _ f = A
      have g139 : f 51 = .bool true := hf 51 (by decide)
      have t139 : A.tmps[139]? = some (.bool true) := by rw [← hA]; exact putAll_g f 139 51 slotsCk12 a0 sbCk12 (by kernel_rfl) zsz rfl g139
      exact flw_val rfl ((wanted_of rfl 139 rfl t139).trans rfl) (aggC ((1, zS, zS))) (ex_build 28 _ rfl (encC ((1, zS, zS))).toArray [(0, .int .i64 1)] (by kernel_rfl) (builtC1 1)) hS (Flz.refl _) (updF_self _ _ _)
    · intro f w1 hS hf
      generalize hA : putAll _ _ f = A
      have g139 : f 51 = .bool true := hf 51 (by decide)
      have t139 : A.tmps[139]? = some (.bool true) := by rw [← hA]; exact putAll_g f 139 51 slotsCk12 a0 sbCk12 (by kernel_rfl) zsz rfl g139
      have h140 : f 52 = aggC ((1, zS, zS)) := hf 52 (by decide)
      have r140 : A.eval (.tmp 140) = aggC ((1, zS, zS)) := by rw [← hA]; exact putAll_at f 140 52 slotsCk12 a0 sbCk12 (by kernel_rfl) zsz rfl h140
      exact flw_call rfl ((wanted_of rfl 139 rfl t139).trans rfl) 16 #[(.tmp 140)] _ rfl #[aggC ((1, zS, zS))] (by simp only [List.map_toArray, List.map_cons, List.map_nil, r140]) (fun w => by kernel_rfl) (fun v _ => v = .bool false) (as_any (zeroC_any ((1, zS, zS)) w1) (congrArg Value.bool (show decide (((1 : Int), zS, zS) = zC) = false by simp [zC]))) (fun v w' hr hb => ⟨hS.trans (hb.mono hS.size), Flz.of hb, (updF_self _ _ _).trans hr⟩)
    · intro f w1 hS hf
      generalize hA : putAll _ _ f = A
      have g139 : f 51 = .bool true := hf 51 (by decide)
      have t139 : A.tmps[139]? = some (.bool true) := by rw [← hA]; exact putAll_g f 139 51 slotsCk12 a0 sbCk12 (by kernel_rfl) zsz rfl g139
      have h141 : f 53 = .bool false := hf 53 (by decide)
      have r141 : A.eval (.tmp 141) = .bool false := by rw [← hA]; exact putAll_at f 141 53 slotsCk12 a0 sbCk12 (by kernel_rfl) zsz rfl h141
      exact flw_val rfl ((wanted_of rfl 139 rfl t139).trans rfl) (.bool true) (ex_not _ (.tmp 141) rfl r141) hS (Flz.refl _) (updF_self _ _ _)
    · intro f w1 hS hf
      generalize hA : putAll _ _ f = A
      have h139 : f 51 = .bool true := hf 51 (by decide)
      have r139 : A.eval (.tmp 139) = .bool true := by rw [← hA]; exact putAll_at f 139 51 slotsCk12 a0 sbCk12 (by kernel_rfl) zsz rfl h139
      have h142 : f 54 = .bool true := hf 54 (by decide)
      have r142 : A.eval (.tmp 142) = .bool true := by rw [← hA]; exact putAll_at f 142 54 slotsCk12 a0 sbCk12 (by kernel_rfl) zsz rfl h142
      exact flw_val rfl rfl (.bool true) (ex_pick (.tmp 139) (.tmp 142) _ rfl true r139 ((if_pos rfl).trans r142)) hS (Flz.refl _) (updF_self _ _ _)
    · intro f w1 hS hf
      generalize hA : putAll _ _ f = A
      have h143 : f 55 = .bool true := hf 55 (by decide)
      have r143 : A.eval (.tmp 143) = .bool true := by rw [← hA]; exact putAll_at f 143 55 slotsCk12 a0 sbCk12 (by kernel_rfl) zsz rfl h143
      exact flw_val rfl rfl (.bool true) (ex_move (.tmp 143) rfl r143) hS (Flz.refl _) (updF_self _ _ _)
    · intro f w1 hS hf
      generalize hA : putAll _ _ f = A
      have g144 : f 56 = .bool true := hf 56 (by decide)
      have t144 : A.tmps[144]? = some (.bool true) := by rw [← hA]; exact putAll_g f 144 56 slotsCk12 a0 sbCk12 (by kernel_rfl) zsz rfl g144
      have r3 : A.eval (.tmp 3) = .pointer (some ⟨b4_5, 0, none⟩) := by rw [← hA]; exact putAll_off f 3 slotsCk12 a0 (by kernel_rfl) z3
      exact flw_val rfl ((wanted_of rfl 144 rfl t144).trans rfl) (.pointer (some ⟨b4_5, 0, none⟩)) (fld0C (.tmp 3) rfl b4_5 r3) hS (Flz.refl _) (updF_self _ _ _)
    · intro f w1 hS hf
      generalize hA : putAll _ _ f = A
      have g144 : f 56 = .bool true := hf 56 (by decide)
      have t144 : A.tmps[144]? = some (.bool true) := by rw [← hA]; exact putAll_g f 144 56 slotsCk12 a0 sbCk12 (by kernel_rfl) zsz rfl g144
      have h145 : f 57 = .pointer (some ⟨b4_5, 0, none⟩) := hf 57 (by decide)
      have r145 : A.eval (.tmp 145) = .pointer (some ⟨b4_5, 0, none⟩) := by rw [← hA]; exact putAll_at f 145 57 slotsCk12 a0 sbCk12 (by kernel_rfl) zsz rfl h145
      exact flw_val rfl ((wanted_of rfl 144 rfl t144).trans rfl) (.int .i64 ((putC (putC zC (shaU tX)) (shaU tY)).1)) (ex_load1 2 (.tmp 145) rfl ⟨b4_5, 0, none⟩ r145 (fun _ => by kernel_rfl) ((HX_b4_5.out.keepB hS).cellv (encC_0 (putC (putC zC (shaU tX)) (shaU tY))))) hS (Flz.refl _) (updF_self _ _ _)
    · intro f w1 hS hf
      generalize hA : putAll _ _ f = A
      have g144 : f 56 = .bool true := hf 56 (by decide)
      have t144 : A.tmps[144]? = some (.bool true) := by rw [← hA]; exact putAll_g f 144 56 slotsCk12 a0 sbCk12 (by kernel_rfl) zsz rfl g144
      have h146 : f 58 = .int .i64 ((putC (putC zC (shaU tX)) (shaU tY)).1) := hf 58 (by decide)
      have r146 : A.eval (.tmp 146) = .int .i64 ((putC (putC zC (shaU tX)) (shaU tY)).1) := by rw [← hA]; exact putAll_at f 146 58 slotsCk12 a0 sbCk12 (by kernel_rfl) zsz rfl h146
      exact flw_val rfl ((wanted_of rfl 144 rfl t144).trans rfl) (.bool true) (Eq.trans (ex_int .eql _ _ (.tmp 146) _ rfl .i64 ((putC (putC zC (shaU tX)) (shaU tY)).1) 2 r146 rfl (.bool (((putC (putC zC (shaU tX)) (shaU tY)).1) == (2 : Int))) (fun _ => rfl)) (by rw [(beq_iff_eq.2 (ck_two _ _))])) hS (Flz.refl _) (updF_self _ _ _)
    · intro f w1 hS hf
      generalize hA : putAll _ _ f = A
      have h144 : f 56 = .bool true := hf 56 (by decide)
      have r144 : A.eval (.tmp 144) = .bool true := by rw [← hA]; exact putAll_at f 144 56 slotsCk12 a0 sbCk12 (by kernel_rfl) zsz rfl h144
      have h147 : f 59 = .bool true := hf 59 (by decide)
      have r147 : A.eval (.tmp 147) = .bool true := by rw [← hA]; exact putAll_at f 147 59 slotsCk12 a0 sbCk12 (by kernel_rfl) zsz rfl h147
      exact flw_val rfl rfl (.bool true) (ex_pick (.tmp 144) (.tmp 147) _ rfl true r144 ((if_pos rfl).trans r147)) hS (Flz.refl _) (updF_self _ _ _)
    · intro f w1 hS hf
      generalize hA : putAll _ _ f = A
      have h148 : f 60 = .bool true := hf 60 (by decide)
      have r148 : A.eval (.tmp 148) = .bool true := by rw [← hA]; exact putAll_at f 148 60 slotsCk12 a0 sbCk12 (by kernel_rfl) zsz rfl h148
      exact flw_val rfl rfl (.bool true) (ex_assign (.tmp 148) rfl r148) hS (Flz.refl _) (updF_self _ _ _)
  intro f u12 hS hf hap
  have h0 : f 0 = .bool false := hf 0 (by decide)
  have h1 : f 1 = .bool true := hf 1 (by decide)
  have h2 : f 2 = .bool true := hf 2 (by decide)
  have h3 : f 3 = .bool true := hf 3 (by decide)
  have h4 : f 4 = .bool true := hf 4 (by decide)
  have h5 : f 5 = .bool true := hf 5 (by decide)
  have h6 : f 6 = .bool true := hf 6 (by decide)
  have h7 : f 7 = .bool true := hf 7 (by decide)
  have h8 : f 8 = .bool true := hf 8 (by decide)
  have h9 : f 9 = .agg (encU (shaU tY)).toArray := hf 9 (by decide)
  have h10 : f 10 = .agg (encU (shaU tY)).toArray := hf 10 (by decide)
  have h11 : f 11 = .bool true := hf 11 (by decide)
  have h12 : f 12 = .bool true := hf 12 (by decide)
  have h13 : f 13 = .bool true := hf 13 (by decide)
  have h14 : f 14 = .bool true := hf 14 (by decide)
  have h15 : f 15 = .bool true := hf 15 (by decide)
  have h16 : f 16 = .bool true := hf 16 (by decide)
  have h17 : f 17 = .bool false := hf 17 (by decide)
  have h18 : f 18 = .bool true := hf 18 (by decide)
  have h19 : f 19 = .bool true := hf 19 (by decide)
  have h20 : f 20 = .bool true := hf 20 (by decide)
  have h21 : f 21 = .agg (encU (shaU tX)).toArray := hf 21 (by decide)
  have h22 : f 22 = .agg (encU (shaU tX)).toArray := hf 22 (by decide)
  have h23 : f 23 = .bool true := hf 23 (by decide)
  have h24 : f 24 = .bool true := hf 24 (by decide)
  have h25 : f 25 = .bool true := hf 25 (by decide)
  have h26 : f 26 = .bool false := hf 26 (by decide)
  have h27 : f 27 = .bool true := hf 27 (by decide)
  have h28 : f 28 = .bool true := hf 28 (by decide)
  have h29 : f 29 = .bool true := hf 29 (by decide)
  have h30 : f 30 = .bool false := hf 30 (by decide)
  have h31 : f 31 = .bool true := hf 31 (by decide)
  have h32 : f 32 = .bool true := hf 32 (by decide)
  have h33 : f 33 = .bool true := hf 33 (by decide)
  have h34 : f 34 = .bool false := hf 34 (by decide)
  have h35 : f 35 = .bool true := hf 35 (by decide)
  have h36 : f 36 = .bool true := hf 36 (by decide)
  have h37 : f 37 = .bool true := hf 37 (by decide)
  have h38 : f 38 = .pointer (some ⟨b11_3, 0, none⟩) := hf 38 (by decide)
  have h39 : f 39 = .int .i64 ((takeC ((-9223372036854775808), zS, zS) (shaU tX)).1) := hf 39 (by decide)
  have h40 : f 40 = .bool true := hf 40 (by decide)
  have h41 : f 41 = .bool true := hf 41 (by decide)
  have h42 : f 42 = .bool true := hf 42 (by decide)
  have h43 : f 43 = .agg (encU (shaU tX)).toArray := hf 43 (by decide)
  have h44 : f 44 = .agg (encU (chkS (shaU tX))).toArray := hf 44 (by decide)
  obtain ⟨gl45, h45, -⟩ := hf 45 (by decide)
  have h46 : f 46 = .slice (some ⟨b3_8, 0, none⟩) 32 32 := hf 46 (by decide)
  obtain ⟨_, gl47, h47, -⟩ := hf 47 (by decide)
  have h48 : f 48 = .agg (encU (chkS (shaU tX))).toArray := hf 48 (by decide)
  have h49 : f 49 = .bool true := hf 49 (by decide)
  have h50 : f 50 = .bool true := hf 50 (by decide)
  have h51 : f 51 = .bool true := hf 51 (by decide)
  have h52 : f 52 = aggC ((1, zS, zS)) := hf 52 (by decide)
  have h53 : f 53 = .bool false := hf 53 (by decide)
  have h54 : f 54 = .bool true := hf 54 (by decide)
  have h55 : f 55 = .bool true := hf 55 (by decide)
  have h56 : f 56 = .bool true := hf 56 (by decide)
  have h57 : f 57 = .pointer (some ⟨b4_5, 0, none⟩) := hf 57 (by decide)
  have h58 : f 58 = .int .i64 ((putC (putC zC (shaU tX)) (shaU tY)).1) := hf 58 (by decide)
  have h59 : f 59 = .bool true := hf 59 (by decide)
  have h60 : f 60 = .bool true := hf 60 (by decide)
  have h61 : f 61 = .bool true := hf 61 (by decide)
  clear hf hap
  clear zsz z6 z9 z8 z7 z2 z12 z11 z10 z1 z15 z18 z21 z22 z3
  subst ha0
  simp only [slotsCk12, putAll, h0, h1, h2, h3, h4, h5, h6, h7, h8, h9, h10, h11, h12, h13, h14, h15, h16, h17, h18, h19, h20, h21, h22, h23, h24, h25, h26, h27, h28, h29, h30, h31, h32, h33, h34, h35, h36, h37, h38, h39, h40, h41, h42, h43, h44, h45, h46, h47, h48, h49, h50, h51, h52, h53, h54, h55, h56, h57, h58, h59, h60, h61, Act.put, List.setIfInBounds_toArray, List.set_cons_zero, List.set_cons_succ]
  clear h0 h1 h2 h3 h4 h5 h6 h7 h8 h9 h10 h11 h12 h13 h14 h15 h16 h17 h18 h19 h20 h21 h22 h23 h24 h25 h26 h27 h28 h29 h30 h31 h32 h33 h34 h35 h36 h37 h38 h39 h40 h41 h42 h43 h44 h45 h46 h47 h48 h49 h50 h51 h52 h53 h54 h55 h56 h57 h58 h59 h60 h61
  refine tl_nilN ?_
  replace HX_b3_8 := Lib.hid (HX_b3_8.out.keepB hS)
  replace HX_b3_9 := Lib.hid (HX_b3_9.out.keepB hS)
  replace HX_b4_5 := Lib.hid (HX_b4_5.out.keepB hS)
  replace HX_b5_6 := Lib.hid (HX_b5_6.out.keepB hS)
  replace HX_b6_10 := Lib.hid (HX_b6_10.out.keepB hS)
  replace HX_b7_8 := Lib.hid (HX_b7_8.out.keepB hS)
  replace HX_b8_6 := Lib.hid (HX_b8_6.out.keepB hS)
  replace HX_b9_7 := Lib.hid (HX_b9_7.out.keepB hS)
  replace HX_b10_10 := Lib.hid (HX_b10_10.out.keepB hS)
  replace HX_b11_3 := Lib.hid (HX_b11_3.out.keepB hS)
  replace HB := Lib.hid (HB.out.trans (hS.mono HB.out.size))
  clear hS
  go_wp2_with fail
  go_ret
  exact ⟨⟨_, rfl, rfl⟩, HB.out⟩
theorem cellKnown_any  (w : World) (hL : Laid w) : Calls Tryd.prog 3 #[] w fun e w' => (∃ v, e = .returned v ∧ v = .bool true) ∧ Below w.heap.size w w' := cellKnown_b  w w (Below.refl _ _) hL
theorem cellKnown_law (w : World) (hL : Laid w) : Calls Tryd.prog 3 #[] w fun e w' => e = .returned (.bool true) ∧ Below w.heap.size w w' :=
  Calls.mono (cellKnown_any w hL) (by rintro e w' ⟨⟨v, rfl, rfl⟩, h⟩; exact ⟨rfl, h⟩)
end Go.Proofs.YtihkbblapfjobaaDoor
