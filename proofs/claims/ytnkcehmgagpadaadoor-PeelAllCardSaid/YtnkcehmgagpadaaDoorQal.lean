/- The law PeelAll: it answers true. Conditions: the sums' tables are laid; a seed of 64 bits; what comes in lies in memory. -/
import Derived.Test.YtnkcehmgagpadaaDoorSq
import Derived.Test.YtnkcehmgagpadaaDoorQw
namespace Go.Proofs.YtnkcehmgagpadaaDoor
open Go.RowKit
theorem okP_parts {q : Pst} (h : okP q = true) : zeroT q.1 = true := by unfold okP at h; rw [Bool.and_eq_true] at h; exact h.1
def waitAl1 (i : Nat) : List Nat := ([[], [0]] : List (List Nat)).getD i []
def slotsAl1 : List (Nat × Nat) := [(23, 0), (24, 1)]
theorem sbAl1 : slotsB slotsAl1 = true := by kernel_rfl
theorem chkAl1 : flwO slotsAl1 waitAl1 2 (regOf Tryd.f6.body 1) = true := by kernel_rfl
def waitAlf5 (i : Nat) : List Nat := ([[], [], [], [2], [0, 1, 3], [4], [5], [5], [], [0, 1, 2, 3, 4, 5, 6, 7, 8], [0, 1, 2, 3, 4, 5, 6, 7, 8, 9]] : List (List Nat)).getD i []
def slotsAlf5 : List (Nat × Nat) := [(38, 0), (39, 1), (40, 2), (41, 3), (42, 4), (37, 5), (43, 6), (44, 7), (9, 8), (10, 10)]
theorem sbAlf5 : slotsB slotsAlf5 = true := by kernel_rfl
theorem chkAlf5 : flwO slotsAlf5 waitAlf5 9 (regOf Tryd.f6.body 5) = true := by kernel_rfl
def waitAlf6 (i : Nat) : List Nat := ([[], [], [], [2], [0, 1, 3], [4], [5], [5], [], [0, 1, 2, 3, 4, 5, 6, 7, 8], [0, 1, 2, 3, 4, 5, 6, 7, 8, 9]] : List (List Nat)).getD i []
def slotsAlf6 : List (Nat × Nat) := [(46, 0), (47, 1), (48, 2), (49, 3), (50, 4), (45, 5), (51, 6), (52, 7), (11, 8), (12, 10)]
theorem sbAlf6 : slotsB slotsAlf6 = true := by kernel_rfl
theorem chkAlf6 : flwO slotsAlf6 waitAlf6 9 (regOf Tryd.f6.body 6) = true := by kernel_rfl
def waitAlf7 (i : Nat) : List Nat := ([[], [0], [1], [2], [2], [2, 4]] : List (List Nat)).getD i []
def slotsAlf7 : List (Nat × Nat) := [(53, 0), (54, 1), (55, 2), (56, 3), (57, 4), (58, 5)]
theorem sbAlf7 : slotsB slotsAlf7 = true := by kernel_rfl
theorem chkAlf7 : flwO slotsAlf7 waitAlf7 6 (regOf Tryd.f6.body 7) = true := by kernel_rfl
def waitAlt7 (i : Nat) : List Nat := ([[], [0], [1], [2], [2, 3], [2, 4]] : List (List Nat)).getD i []
def slotsAlt7 : List (Nat × Nat) := [(53, 0), (54, 1), (55, 2), (56, 3), (57, 4), (58, 5)]
theorem sbAlt7 : slotsB slotsAlt7 = true := by kernel_rfl
theorem chkAlt7 : flwO slotsAlt7 waitAlt7 6 (regOf Tryd.f6.body 7) = true := by kernel_rfl
def waitAlt9 (i : Nat) : List Nat := ([[], [], [0, 1], [2], [3], [3], [], [0, 1, 2, 3, 4, 5, 6], [0, 1, 2, 3, 4, 5, 6, 7]] : List (List Nat)).getD i []
def slotsAlt9 : List (Nat × Nat) := [(60, 0), (61, 1), (62, 2), (59, 3), (63, 4), (64, 5), (13, 6), (14, 8)]
theorem sbAlt9 : slotsB slotsAlt9 = true := by kernel_rfl
theorem chkAlt9 : flwO slotsAlt9 waitAlt9 7 (regOf Tryd.f6.body 9) = true := by kernel_rfl
def waitAltf10 (i : Nat) : List Nat := ([[], [0], [1], [2], [2], [], [0, 1, 2, 3, 4, 5], [0, 1, 2, 3, 4, 5, 6]] : List (List Nat)).getD i []
def slotsAltf10 : List (Nat × Nat) := [(66, 0), (67, 1), (65, 2), (68, 3), (69, 4), (15, 5), (16, 7)]
theorem sbAltf10 : slotsB slotsAltf10 = true := by kernel_rfl
theorem chkAltf10 : flwO slotsAltf10 waitAltf10 6 (regOf Tryd.f6.body 10) = true := by kernel_rfl
def waitAltf11 (i : Nat) : List Nat := ([[], [0]] : List (List Nat)).getD i []
def slotsAltf11 : List (Nat × Nat) := [(70, 0), (71, 1)]
theorem sbAltf11 : slotsB slotsAltf11 = true := by kernel_rfl
theorem chkAltf11 : flwO slotsAltf11 waitAltf11 2 (regOf Tryd.f6.body 11) = true := by kernel_rfl
def waitAltt13 (i : Nat) : List Nat := ([[], [], [], [2], [0, 1, 3], [4], [5], [5], [], [0, 1, 2, 3, 4, 5, 6, 7, 8], [0, 1, 2, 3, 4, 5, 6, 7, 8, 9]] : List (List Nat)).getD i []
def slotsAltt13 : List (Nat × Nat) := [(75, 0), (76, 1), (77, 2), (78, 3), (79, 4), (74, 5), (80, 6), (81, 7), (17, 8), (18, 10)]
theorem sbAltt13 : slotsB slotsAltt13 = true := by kernel_rfl
theorem chkAltt13 : flwO slotsAltt13 waitAltt13 9 (regOf Tryd.f6.body 13) = true := by kernel_rfl
def waitAltt14 (i : Nat) : List Nat := ([[], [], [], [2], [0, 1, 3], [4], [5], [5], [], [0, 1, 2, 3, 4, 5, 6, 7, 8], [0, 1, 2, 3, 4, 5, 6, 7, 8, 9]] : List (List Nat)).getD i []
def slotsAltt14 : List (Nat × Nat) := [(83, 0), (84, 1), (85, 2), (86, 3), (87, 4), (82, 5), (88, 6), (89, 7), (19, 8), (20, 10)]
theorem sbAltt14 : slotsB slotsAltt14 = true := by kernel_rfl
theorem chkAltt14 : flwO slotsAltt14 waitAltt14 9 (regOf Tryd.f6.body 14) = true := by kernel_rfl
def waitAltt15 (i : Nat) : List Nat := ([[], [], [0, 1], [2], [3], [3], [], [0, 1, 2, 3, 4, 5, 6], [0, 1, 2, 3, 4, 5, 6, 7]] : List (List Nat)).getD i []
def slotsAltt15 : List (Nat × Nat) := [(91, 0), (92, 1), (93, 2), (90, 3), (94, 4), (95, 5), (21, 6), (22, 8)]
theorem sbAltt15 : slotsB slotsAltt15 = true := by kernel_rfl
theorem chkAltt15 : flwO slotsAltt15 waitAltt15 7 (regOf Tryd.f6.body 15) = true := by kernel_rfl
def waitAltt16 (i : Nat) : List Nat := ([[], [0], [1], [2], [2, 3], [2], [2, 5], [2, 4, 6], [2, 7], [8], [9], [9, 10], [9, 11], [9, 12], [13], [14], [14, 15], [14], [14, 17], [14, 16, 18], [14, 19], [14, 20], [14, 21], [22], [23], [23, 24], [23], [23, 26], [23, 27], [23], [23, 29], [23, 30], [23, 28, 31], [23, 25, 32], [23, 33], [34]] : List (List Nat)).getD i []
def slotsAltt16 : List (Nat × Nat) := [(96, 0), (97, 1), (98, 2), (99, 3), (100, 4), (101, 5), (102, 6), (103, 7), (104, 8), (105, 9), (106, 10), (107, 11), (108, 12), (109, 13), (110, 14), (111, 15), (112, 16), (113, 17), (114, 18), (115, 19), (116, 20), (117, 21), (118, 22), (119, 23), (120, 24), (121, 25), (122, 26), (123, 27), (124, 28), (125, 29), (126, 30), (127, 31), (128, 32), (129, 33), (130, 34), (8, 35)]
theorem sbAltt16 : slotsB slotsAltt16 = true := by kernel_rfl
theorem chkAltt16 : flwB slotsAltt16 waitAltt16 36 (regOf Tryd.f6.body 16) = true := by kernel_rfl
set_option maxHeartbeats 32000000 in
set_option maxRecDepth 100000 in
theorem peelAll_b (s : Nat) (n : Int) (la lb : List Int) (qa qb : Option Addr) (ca cb : Nat) (w w0 : World) (hB : Below w.heap.size w w0) (hs : s < 18446744073709551616) (hL : Laid w) (ha : Sees w w.heap.size qa (la.map fun n => Value.int .i64 n)) (hb : Sees w w.heap.size qb (lb.map fun n => Value.int .i64 n)) : Calls Tryd.prog 6 #[.int .u64 (s : Int), .int .i64 n, .slice qa la.length ca, .slice qb lb.length cb] w0 fun e w' => e = .returned (.bool true) ∧ Below w.heap.size w w' := by
 have HB := Lib.hid hB
 clear hB
 have HL := Lib.hid hL
 have HSZ := Lib.hid hL.size
 have HSD := Lib.hid hs
 have HSA : Hid (Ins w (.slice qa la.length ca) la) := Lib.hid ⟨qa, ca, rfl, ha⟩
 have HSB : Hid (Ins w (.slice qb lb.length cb) lb) := Lib.hid ⟨qb, cb, rfl, hb⟩
 clear hL hs ha hb
 go_enter Tryd.func6, Tryd.ntmps6
 go_upto_region 0 with fail
 refine wp_region_lit ?_
 try simp only [Act.put, List.setIfInBounds_toArray, List.set_cons_zero, List.set_cons_succ]
 refine lp_pure (v := .bool false) rfl (ex_assign _ rfl rfl) ?_
 try simp only [Act.put, List.setIfInBounds_toArray, List.set_cons_zero, List.set_cons_succ]
 refine wpList_nil ?_
 go_upto_region 1 with fail
 refine wp_act (fun a0 ha0 => ?_)
 have zsz : a0.tmps.size = 131 := by rw [ha0]; rfl
 refine wrO [] slotsAl1 waitAl1 [Fct.val Flz 0 (.bool true), Fct.val Flz 1 (.bool false)] (fun w' => Below w0.heap.size w0 w') _ 2 0 chkAl1 (by kernel_rfl) (by kernel_rfl) (by kernel_rfl) (by decide) (Below.refl _ _) ?_ ?_
 ·refine lt_s (lt_s (lt_0) ?_) ?_
  ·intro f w1 hS hf aA hA
   exact fC rfl rfl 8 #[] _ rfl #[] (by kernel_rfl) (fun w => by kernel_rfl) _ (awake16_any w1 (HL.out.keep (HB.out.trans (hS.mono HB.out.size)) HSZ.out)) hS (fun _ _ h => uS.trans h)
  ·intro f w1 hS hf aA hA
   have r23 := pA 23 0 hA sbAl1 (by kernel_rfl) zsz rfl (hf 0 (by decide))
   exact fV rfl rfl _ (ex_not _ (.tmp 23) rfl r23) hS uS
 intro f u1 hS hf hap
 have h0 : f 0 = .bool true := hf 0 (by decide)
 have h1 : f 1 = .bool false := hf 1 (by decide)
 clear hf hap
 clear zsz
 subst ha0
 simp only [slotsAl1, putAll, h0, h1, Act.put, List.setIfInBounds_toArray, List.set_cons_zero, List.set_cons_succ]
 clear h0 h1
 refine tl_nil ?_
 replace HB := Lib.hid (HB.out.trans (hS.mono HB.out.size))
 clear hS
 by_cases h1 : 25 < la.length
 ·have k1 : (25 : Int) < (la.length : Int) := by omega
  go_wp2_with fail
  go_ret
  exact ⟨rfl, HB.out⟩
 have k1 : ¬ (25 : Int) < (la.length : Int) := by omega
 by_cases h2 : 25 < lb.length
 ·have k2 : (25 : Int) < (lb.length : Int) := by omega
  go_wp2_with fail
  go_ret
  exact ⟨rfl, HB.out⟩
 have k2 : ¬ (25 : Int) < (lb.length : Int) := by omega
 by_cases h3 : 90 < n
 ·go_wp2_with fail
  go_ret
  exact ⟨rfl, HB.out⟩
 have HLA : Hid (la.length ≤ 25) := Lib.hid (by omega)
 have HLB : Hid (lb.length ≤ 25) := Lib.hid (by omega)
 clear h1 h2
 obtain ⟨gd, hgd⟩ : ∃ gd, goodN n = gd := ⟨_, rfl⟩
 have HGD := Lib.hid hgd
 clear hgd
 cases gd
 ·go_upto_region 5 with fail
  refine wp_act (fun a0 ha0 => ?_)
  have zsz : a0.tmps.size = 131 := by rw [ha0]; rfl
  have z0 : a0.eval (.tmp 0) = .int .u64 (s : Int) := by rw [ha0]; rfl
  have z1 : a0.eval (.tmp 1) = .int .i64 n := by rw [ha0]; rfl
  have z2 : a0.eval (.tmp 2) = .slice qa la.length ca := by rw [ha0]; rfl
  refine wrO [] slotsAlf5 waitAlf5 [Fct.val Flz 0 (.int .u64 (s : Int)), Fct.val Flz 1 (.int .i64 n), Fct.val Flz 2 (.slice qa la.length ca), Fct.obj 3 (fun v w => Us w v (srt ((la).map fewS))) (fun _ _ _ h he => h.flz he), Fct.obj 4 (fun v w => ∃ zz, v = .tuple #[.agg #[.int .u64 0, zz], .int .i64 1] ∧ Cs w zz (([] : List Ce))) (fun _ _ _ ⟨zz, a, b⟩ he => ⟨zz, a, b.flz he⟩), Fct.obj 5 (fun v w => ∃ zz, v = .tuple #[.agg #[.int .u64 0, zz], .int .i64 1] ∧ Cs w zz (([] : List Ce))) (fun _ _ _ ⟨zz, a, b⟩ he => ⟨zz, a, b.flz he⟩), Fct.obj 6 (fun v w => ∃ zz, v = .agg #[.int .u64 0, zz] ∧ Cs w zz (([] : List Ce))) (fun _ _ _ ⟨zz, a, b⟩ he => ⟨zz, a, b.flz he⟩), Fct.val Flz 7 (.int .i64 1), Fct.obj 8 (fun v w => ∃ g, v = .pointer (some ⟨g, 0, none⟩) ∧ u1.heap.size ≤ g ∧ Has w g 28 ([.int .u64 0, .slice none 0 0])) (fun _ _ _ ⟨g, a, b, c⟩ he => ⟨g, a, b, c.flz he (by decide)⟩)] (fun w' => Below u1.heap.size u1 w') _ 9 2 chkAlf5 (by kernel_rfl) (by kernel_rfl) (by kernel_rfl) (by decide) (Below.refl _ _) ?_ ?_
  ·refine lt_s (lt_s (lt_s (lt_s (lt_s (lt_s (lt_s (lt_s (lt_s (lt_0) ?_) ?_) ?_) ?_) ?_) ?_) ?_) ?_) ?_
   ·intro f w1 hS hf aA hA
    have r0 := pO 0 hA (by kernel_rfl) z0
    exact fV rfl rfl _ (ex_move (.tmp 0) rfl r0) hS uS
   ·intro f w1 hS hf aA hA
    have r1 := pO 1 hA (by kernel_rfl) z1
    exact fV rfl rfl _ (ex_move (.tmp 1) rfl r1) hS uS
   ·intro f w1 hS hf aA hA
    have r2 := pO 2 hA (by kernel_rfl) z2
    exact fV rfl rfl _ (ex_move (.tmp 2) rfl r2) hS uS
   ·intro f w1 hS hf aA hA
    have r40 := pA 40 2 hA sbAlf5 (by kernel_rfl) zsz rfl (hf 2 (by decide))
    exact flw_call rfl rfl 12 #[(.tmp 40)] _ rfl #[.slice qa la.length ca] (mp1 r40) (fun w => by kernel_rfl) (fun v w' => Us w' v (srt ((la).map fewS))) (few16_us _ (la) w1 (HL.out.keep (HB.out.trans (hS.mono HB.out.size)) HSZ.out) (Nat.le_trans HLA.out (by decide)) (HSA.out.keep (HB.out.trans (hS.mono HB.out.size)))) (fun v w' hr hb => ⟨hS.trans (hb.mono hS.size), Flz.of hb, (show Us w' (updF f 3 v 3) (srt ((la).map fewS)) by rw [updF_self]; exact hr)⟩)
   ·intro f w1 hS hf aA hA
    have r38 := pA 38 0 hA sbAlf5 (by kernel_rfl) zsz rfl (hf 0 (by decide))
    have r39 := pA 39 1 hA sbAlf5 (by kernel_rfl) zsz rfl (hf 1 (by decide))
    have hu3 : Us w1 (f 3) (srt ((la).map fewS)) := (hf 3 (by decide))
    have e41 := pA 41 3 hA sbAlf5 (by kernel_rfl) zsz rfl rfl
    exact fC rfl rfl 11 #[(.tmp 38), (.tmp 39), (.tmp 41)] _ rfl #[.int .u64 (s : Int), .int .i64 n, f 3] (mp3 r38 r39 e41) (fun w => by kernel_rfl) _ (of_f s n _ (srt ((la).map fewS)) HGD.out w1 HSD.out (HL.out.keep (HB.out.trans (hS.mono HB.out.size)) HSZ.out) (len_few _ 10000 (Nat.le_trans HLA.out (by decide))) hu3) hS (fun _ _ ⟨zz, a, b⟩ => ⟨zz, uS.trans a, b⟩)
   ·intro f w1 hS hf aA hA
    obtain ⟨x42, hx42, hr42⟩ := hf 4 (by decide)
    have e42 := pA 42 4 hA sbAlf5 (by kernel_rfl) zsz rfl hx42
    exact flw_val rfl rfl (.tuple #[.agg #[.int .u64 0, x42], .int .i64 1]) (ex_move (.tmp 42) rfl e42) hS (Flz.refl _) ⟨x42, uS, hr42⟩
   ·intro f w1 hS hf aA hA
    obtain ⟨x37, hx37, hr37⟩ := hf 5 (by decide)
    have e37 := pA 37 5 hA sbAlf5 (by kernel_rfl) zsz rfl hx37
    exact flw_val rfl rfl (.agg #[.int .u64 0, x37]) (ex_extract (.tmp 37) 0 rfl e37 rfl) hS (Flz.refl _) ⟨x37, uS, hr37⟩
   ·intro f w1 hS hf aA hA
    obtain ⟨x37, hx37, hr37⟩ := hf 5 (by decide)
    have e37 := pA 37 5 hA sbAlf5 (by kernel_rfl) zsz rfl hx37
    exact fV rfl rfl _ (ex_extract (.tmp 37) 1 rfl e37 rfl) hS uS
   ·intro f w1 hS hf aA hA
    exact flw_wp rfl rfl (fun K hK => wp_alloc_row 28 rfl (.agg #[.int .u64 0, .slice none 0 0]) (fun w => by kernel_rfl) (hK _ _ (hS.alloc hS.size _) (Flz.al _ _) ⟨_, uS, hS.size, Has.made' _ _ _ _ rfl⟩))
  intro f x5 hS hf hap
  have h0 : f 0 = .int .u64 (s : Int) := hf 0 (by decide)
  have h1 : f 1 = .int .i64 n := hf 1 (by decide)
  have h2 : f 2 = .slice qa la.length ca := hf 2 (by decide)
  obtain ⟨v5_3, h3, hu3⟩ : ∃ v, f 3 = v ∧ Us x5 v (srt ((la).map fewS)) := ⟨_, rfl, (hf 3 (by decide))⟩
  clear hu3
  obtain ⟨v5_4, h4, -⟩ := hf 4 (by decide)
  obtain ⟨v5_5, h5, -⟩ := hf 5 (by decide)
  obtain ⟨v5_6, h6, hu6⟩ := hf 6 (by decide)
  have HU5_6 := Lib.hid hu6
  clear hu6
  have h7 : f 7 = .int .i64 1 := hf 7 (by decide)
  obtain ⟨b5_8, h8, hgb8, hhb8⟩ := hf 8 (by decide)
  clear hf hap
  clear zsz z0 z1 z2
  subst ha0
  simp only [slotsAlf5, putAll, h0, h1, h2, h3, h4, h5, h6, h7, h8, Act.put, List.setIfInBounds_toArray, List.set_cons_zero, List.set_cons_succ]
  clear h0 h1 h2 h3 h4 h5 h6 h7 h8
  refine tl_store rfl (by kernel_rfl) 28 (.tmp 9) (.tmp 43) rfl b5_8 ([.int .u64 0, v5_6]) _ rfl rfl _ hhb8 (by kernel_rfl) rfl (tb_ones _ HU5_6.out.one) ?_
  intro u5 hp8 hbl hot
  replace hS := hS.trans (hbl _ hgb8)
  replace HU5_6 := Lib.hid (HU5_6.out.hotb hhb8 ⟨_, _, _, rfl⟩ (by decide) (hbl 0 (Nat.zero_le _)).size hot)
  clear hbl hot hhb8
  try simp only [Act.put]
  refine tl_pure rfl (by kernel_rfl) (.int .i64 1) (ex_assign (.tmp 44) rfl rfl) ?_
  try simp only [Act.put, List.setIfInBounds_toArray, List.set_cons_zero, List.set_cons_succ]
  refine tl_nil ?_
  have HBW := Lib.hid HB.out.size
  replace HB := Lib.hid (HB.out.trans (hS.mono HB.out.size))
  clear hS
  have HGb5_8 : Hid (w.heap.size ≤ b5_8) := Lib.hid (Nat.le_trans HBW.out hgb8)
  have HX_b5_8 : Hid (Has u5 b5_8 28 ([.int .u64 0, v5_6])) := Lib.hid hp8
  clear hp8 hgb8
  clear HBW
  go_upto_region 6 with fail
  refine wp_act (fun a0 ha0 => ?_)
  have zsz : a0.tmps.size = 131 := by rw [ha0]; rfl
  have z0 : a0.eval (.tmp 0) = .int .u64 (s : Int) := by rw [ha0]; rfl
  have z1 : a0.eval (.tmp 1) = .int .i64 n := by rw [ha0]; rfl
  have z3 : a0.eval (.tmp 3) = .slice qb lb.length cb := by rw [ha0]; rfl
  refine wrO [] slotsAlf6 waitAlf6 [Fct.val Flz 0 (.int .u64 (s : Int)), Fct.val Flz 1 (.int .i64 n), Fct.val Flz 2 (.slice qb lb.length cb), Fct.obj 3 (fun v w => Us w v (srt ((lb).map fewS))) (fun _ _ _ h he => h.flz he), Fct.obj 4 (fun v w => ∃ zz, v = .tuple #[.agg #[.int .u64 0, zz], .int .i64 1] ∧ Cs w zz (([] : List Ce))) (fun _ _ _ ⟨zz, a, b⟩ he => ⟨zz, a, b.flz he⟩), Fct.obj 5 (fun v w => ∃ zz, v = .tuple #[.agg #[.int .u64 0, zz], .int .i64 1] ∧ Cs w zz (([] : List Ce))) (fun _ _ _ ⟨zz, a, b⟩ he => ⟨zz, a, b.flz he⟩), Fct.obj 6 (fun v w => ∃ zz, v = .agg #[.int .u64 0, zz] ∧ Cs w zz (([] : List Ce))) (fun _ _ _ ⟨zz, a, b⟩ he => ⟨zz, a, b.flz he⟩), Fct.val Flz 7 (.int .i64 1), Fct.obj 8 (fun v w => ∃ g, v = .pointer (some ⟨g, 0, none⟩) ∧ u5.heap.size ≤ g ∧ Has w g 28 ([.int .u64 0, .slice none 0 0])) (fun _ _ _ ⟨g, a, b, c⟩ he => ⟨g, a, b, c.flz he (by decide)⟩)] (fun w' => Below u5.heap.size u5 w') _ 9 2 chkAlf6 (by kernel_rfl) (by kernel_rfl) (by kernel_rfl) (by decide) (Below.refl _ _) ?_ ?_
  ·refine lt_s (lt_s (lt_s (lt_s (lt_s (lt_s (lt_s (lt_s (lt_s (lt_0) ?_) ?_) ?_) ?_) ?_) ?_) ?_) ?_) ?_
   ·intro f w1 hS hf aA hA
    have r0 := pO 0 hA (by kernel_rfl) z0
    exact fV rfl rfl _ (ex_move (.tmp 0) rfl r0) hS uS
   ·intro f w1 hS hf aA hA
    have r1 := pO 1 hA (by kernel_rfl) z1
    exact fV rfl rfl _ (ex_move (.tmp 1) rfl r1) hS uS
   ·intro f w1 hS hf aA hA
    have r3 := pO 3 hA (by kernel_rfl) z3
    exact fV rfl rfl _ (ex_move (.tmp 3) rfl r3) hS uS
   ·intro f w1 hS hf aA hA
    have r48 := pA 48 2 hA sbAlf6 (by kernel_rfl) zsz rfl (hf 2 (by decide))
    exact flw_call rfl rfl 12 #[(.tmp 48)] _ rfl #[.slice qb lb.length cb] (mp1 r48) (fun w => by kernel_rfl) (fun v w' => Us w' v (srt ((lb).map fewS))) (few16_us _ (lb) w1 (HL.out.keep (HB.out.trans (hS.mono HB.out.size)) HSZ.out) (Nat.le_trans HLB.out (by decide)) (HSB.out.keep (HB.out.trans (hS.mono HB.out.size)))) (fun v w' hr hb => ⟨hS.trans (hb.mono hS.size), Flz.of hb, (show Us w' (updF f 3 v 3) (srt ((lb).map fewS)) by rw [updF_self]; exact hr)⟩)
   ·intro f w1 hS hf aA hA
    have r46 := pA 46 0 hA sbAlf6 (by kernel_rfl) zsz rfl (hf 0 (by decide))
    have r47 := pA 47 1 hA sbAlf6 (by kernel_rfl) zsz rfl (hf 1 (by decide))
    have hu3 : Us w1 (f 3) (srt ((lb).map fewS)) := (hf 3 (by decide))
    have e49 := pA 49 3 hA sbAlf6 (by kernel_rfl) zsz rfl rfl
    exact fC rfl rfl 11 #[(.tmp 46), (.tmp 47), (.tmp 49)] _ rfl #[.int .u64 (s : Int), .int .i64 n, f 3] (mp3 r46 r47 e49) (fun w => by kernel_rfl) _ (of_f s n _ (srt ((lb).map fewS)) HGD.out w1 HSD.out (HL.out.keep (HB.out.trans (hS.mono HB.out.size)) HSZ.out) (len_few _ 10000 (Nat.le_trans HLB.out (by decide))) hu3) hS (fun _ _ ⟨zz, a, b⟩ => ⟨zz, uS.trans a, b⟩)
   ·intro f w1 hS hf aA hA
    obtain ⟨x50, hx50, hr50⟩ := hf 4 (by decide)
    have e50 := pA 50 4 hA sbAlf6 (by kernel_rfl) zsz rfl hx50
    exact flw_val rfl rfl (.tuple #[.agg #[.int .u64 0, x50], .int .i64 1]) (ex_move (.tmp 50) rfl e50) hS (Flz.refl _) ⟨x50, uS, hr50⟩
   ·intro f w1 hS hf aA hA
    obtain ⟨x45, hx45, hr45⟩ := hf 5 (by decide)
    have e45 := pA 45 5 hA sbAlf6 (by kernel_rfl) zsz rfl hx45
    exact flw_val rfl rfl (.agg #[.int .u64 0, x45]) (ex_extract (.tmp 45) 0 rfl e45 rfl) hS (Flz.refl _) ⟨x45, uS, hr45⟩
   ·intro f w1 hS hf aA hA
    obtain ⟨x45, hx45, hr45⟩ := hf 5 (by decide)
    have e45 := pA 45 5 hA sbAlf6 (by kernel_rfl) zsz rfl hx45
    exact fV rfl rfl _ (ex_extract (.tmp 45) 1 rfl e45 rfl) hS uS
   ·intro f w1 hS hf aA hA
    exact flw_wp rfl rfl (fun K hK => wp_alloc_row 28 rfl (.agg #[.int .u64 0, .slice none 0 0]) (fun w => by kernel_rfl) (hK _ _ (hS.alloc hS.size _) (Flz.al _ _) ⟨_, uS, hS.size, Has.made' _ _ _ _ rfl⟩))
  intro f x6 hS hf hap
  have h0 : f 0 = .int .u64 (s : Int) := hf 0 (by decide)
  have h1 : f 1 = .int .i64 n := hf 1 (by decide)
  have h2 : f 2 = .slice qb lb.length cb := hf 2 (by decide)
  obtain ⟨v6_3, h3, hu3⟩ : ∃ v, f 3 = v ∧ Us x6 v (srt ((lb).map fewS)) := ⟨_, rfl, (hf 3 (by decide))⟩
  clear hu3
  obtain ⟨v6_4, h4, -⟩ := hf 4 (by decide)
  obtain ⟨v6_5, h5, -⟩ := hf 5 (by decide)
  obtain ⟨v6_6, h6, hu6⟩ := hf 6 (by decide)
  have HU6_6 := Lib.hid hu6
  clear hu6
  have h7 : f 7 = .int .i64 1 := hf 7 (by decide)
  obtain ⟨b6_8, h8, hgb8, hhb8⟩ := hf 8 (by decide)
  clear hf hap
  clear zsz z0 z1 z3
  subst ha0
  simp only [slotsAlf6, putAll, h0, h1, h2, h3, h4, h5, h6, h7, h8, Act.put, List.setIfInBounds_toArray, List.set_cons_zero, List.set_cons_succ]
  clear h0 h1 h2 h3 h4 h5 h6 h7 h8
  refine tl_store rfl (by kernel_rfl) 28 (.tmp 11) (.tmp 51) rfl b6_8 ([.int .u64 0, v6_6]) _ rfl rfl _ hhb8 (by kernel_rfl) rfl (tb_ones _ HU6_6.out.one) ?_
  intro u6 hp8 hbl hot
  replace hS := hS.trans (hbl _ hgb8)
  replace HU6_6 := Lib.hid (HU6_6.out.hotb hhb8 ⟨_, _, _, rfl⟩ (by decide) (hbl 0 (Nat.zero_le _)).size hot)
  clear hbl hot hhb8
  try simp only [Act.put]
  refine tl_pure rfl (by kernel_rfl) (.int .i64 1) (ex_assign (.tmp 52) rfl rfl) ?_
  try simp only [Act.put, List.setIfInBounds_toArray, List.set_cons_zero, List.set_cons_succ]
  refine tl_nil ?_
  replace HX_b5_8 := Lib.hid (HX_b5_8.out.keepB hS)
  replace HU5_6 := Lib.hid (HU5_6.out.keep hS)
  have HBW := Lib.hid HB.out.size
  replace HB := Lib.hid (HB.out.trans (hS.mono HB.out.size))
  clear hS
  have HGb6_8 : Hid (w.heap.size ≤ b6_8) := Lib.hid (Nat.le_trans HBW.out hgb8)
  have HX_b6_8 : Hid (Has u6 b6_8 28 ([.int .u64 0, v6_6])) := Lib.hid hp8
  clear hp8 hgb8
  clear HBW
  go_upto_region 7 with fail
  refine wp_act (fun a0 ha0 => ?_)
  have zsz : a0.tmps.size = 131 := by rw [ha0]; rfl
  have z10 : a0.eval (.tmp 10) = .int .i64 1 := by rw [ha0]; rfl
  refine wrO [] slotsAlf7 waitAlf7 [Fct.val Flz 0 (.int .i64 1), Fct.val Flz 1 (.bool true), Fct.val Flz 2 (.bool true), Fct.val Flz 3 (undef), Fct.val Flz 4 (undef), Fct.val Flz 5 (.bool true)] (fun w' => Below u6.heap.size u6 w') _ 6 0 chkAlf7 (by kernel_rfl) (by kernel_rfl) (by kernel_rfl) (by decide) (Below.refl _ _) ?_ ?_
  ·refine lt_s (lt_s (lt_s (lt_s (lt_s (lt_s (lt_0) ?_) ?_) ?_) ?_) ?_) ?_
   ·intro f w1 hS hf aA hA
    have r10 := pO 10 hA (by kernel_rfl) z10
    exact fV rfl rfl _ (ex_move (.tmp 10) rfl r10) hS uS
   ·intro f w1 hS hf aA hA
    have r53 := pA 53 0 hA sbAlf7 (by kernel_rfl) zsz rfl (hf 0 (by decide))
    exact fV rfl rfl _ (Eq.trans (ex_int .neq _ _ (.tmp 53) _ rfl .i64 1 0 r53 rfl (.bool ((1 : Int) != (0 : Int))) (fun _ => rfl)) (by rw [(by decide : ((1 : Int) != (0 : Int)) = true)])) hS uS
   ·intro f w1 hS hf aA hA
    have r54 := pA 54 1 hA sbAlf7 (by kernel_rfl) zsz rfl (hf 1 (by decide))
    exact fV rfl rfl _ (ex_move (.tmp 54) rfl r54) hS uS
   ·intro f w1 hS hf aA hA
    have t55 := pG 55 2 hA sbAlf7 (by kernel_rfl) zsz rfl (hf 2 (by decide))
    exact flw_skip rfl ((wanted_of rfl 55 rfl t55).trans rfl) hS (Flz.refl _) uS
   ·intro f w1 hS hf aA hA
    have t55 := pG 55 2 hA sbAlf7 (by kernel_rfl) zsz rfl (hf 2 (by decide))
    exact flw_skip rfl ((wanted_of rfl 55 rfl t55).trans rfl) hS (Flz.refl _) uS
   ·intro f w1 hS hf aA hA
    have r55 := pA 55 2 hA sbAlf7 (by kernel_rfl) zsz rfl (hf 2 (by decide))
    exact fV rfl rfl (.bool true) (ex_pick (.tmp 55) _ (.tmp 57) rfl true r55 ((if_pos rfl).trans rfl)) hS uS
  intro f u7 hS hf hap
  have h0 : f 0 = .int .i64 1 := hf 0 (by decide)
  have h1 : f 1 = .bool true := hf 1 (by decide)
  have h2 : f 2 = .bool true := hf 2 (by decide)
  have h3 : f 3 = undef := hf 3 (by decide)
  have h4 : f 4 = undef := hf 4 (by decide)
  have h5 : f 5 = .bool true := hf 5 (by decide)
  clear hf hap
  clear zsz z10
  subst ha0
  simp only [slotsAlf7, putAll, h0, h1, h2, h3, h4, h5, Act.put, List.setIfInBounds_toArray, List.set_cons_zero, List.set_cons_succ]
  clear h0 h1 h2 h3 h4 h5
  refine tl_nil ?_
  replace HX_b5_8 := Lib.hid (HX_b5_8.out.keepB hS)
  replace HU5_6 := Lib.hid (HU5_6.out.keep hS)
  replace HX_b6_8 := Lib.hid (HX_b6_8.out.keepB hS)
  replace HU6_6 := Lib.hid (HU6_6.out.keep hS)
  replace HB := Lib.hid (HB.out.trans (hS.mono HB.out.size))
  clear hS
  go_wp2_with fail
  go_ret
  exact ⟨rfl, HB.out⟩
 ·obtain ⟨m, hm, hm3, hm4⟩ := good_int HGD.out
  have HM := Lib.hid hm
  have HM4 := Lib.hid hm4
  have HGM : Hid (goodN (m : Int) = true) := Lib.hid (by rw [← hm]; exact HGD.out)
  clear hm hm3 hm4
  go_upto_region 5 with fail
  refine wp_act (fun a0 ha0 => ?_)
  have zsz : a0.tmps.size = 131 := by rw [ha0]; rfl
  have z0 : a0.eval (.tmp 0) = .int .u64 (s : Int) := by rw [ha0]; rfl
  have z1 : a0.eval (.tmp 1) = .int .i64 n := by rw [ha0]; rfl
  have z2 : a0.eval (.tmp 2) = .slice qa la.length ca := by rw [ha0]; rfl
  refine wrO [] slotsAlf5 waitAlf5 [Fct.val Flz 0 (.int .u64 (s : Int)), Fct.val Flz 1 (.int .i64 n), Fct.val Flz 2 (.slice qa la.length ca), Fct.obj 3 (fun v w => Us w v (srt ((la).map fewS))) (fun _ _ _ h he => h.flz he), Fct.obj 4 (fun v w => ∃ zz, v = .tuple #[.agg #[.int .u64 (s : Int), zz], .int .i64 0] ∧ Cs w zz (tabP s m (srt ((la).map fewS)))) (fun _ _ _ ⟨zz, a, b⟩ he => ⟨zz, a, b.flz he⟩), Fct.obj 5 (fun v w => ∃ zz, v = .tuple #[.agg #[.int .u64 (s : Int), zz], .int .i64 0] ∧ Cs w zz (tabP s m (srt ((la).map fewS)))) (fun _ _ _ ⟨zz, a, b⟩ he => ⟨zz, a, b.flz he⟩), Fct.obj 6 (fun v w => ∃ zz, v = .agg #[.int .u64 (s : Int), zz] ∧ Cs w zz (tabP s m (srt ((la).map fewS)))) (fun _ _ _ ⟨zz, a, b⟩ he => ⟨zz, a, b.flz he⟩), Fct.val Flz 7 (.int .i64 0), Fct.obj 8 (fun v w => ∃ g, v = .pointer (some ⟨g, 0, none⟩) ∧ u1.heap.size ≤ g ∧ Has w g 28 ([.int .u64 0, .slice none 0 0])) (fun _ _ _ ⟨g, a, b, c⟩ he => ⟨g, a, b, c.flz he (by decide)⟩)] (fun w' => Below u1.heap.size u1 w') _ 9 2 chkAlf5 (by kernel_rfl) (by kernel_rfl) (by kernel_rfl) (by decide) (Below.refl _ _) ?_ ?_
  ·refine lt_s (lt_s (lt_s (lt_s (lt_s (lt_s (lt_s (lt_s (lt_s (lt_0) ?_) ?_) ?_) ?_) ?_) ?_) ?_) ?_) ?_
   ·intro f w1 hS hf aA hA
    have r0 := pO 0 hA (by kernel_rfl) z0
    exact fV rfl rfl _ (ex_move (.tmp 0) rfl r0) hS uS
   ·intro f w1 hS hf aA hA
    have r1 := pO 1 hA (by kernel_rfl) z1
    exact fV rfl rfl _ (ex_move (.tmp 1) rfl r1) hS uS
   ·intro f w1 hS hf aA hA
    have r2 := pO 2 hA (by kernel_rfl) z2
    exact fV rfl rfl _ (ex_move (.tmp 2) rfl r2) hS uS
   ·intro f w1 hS hf aA hA
    have r40 := pA 40 2 hA sbAlf5 (by kernel_rfl) zsz rfl (hf 2 (by decide))
    exact flw_call rfl rfl 12 #[(.tmp 40)] _ rfl #[.slice qa la.length ca] (mp1 r40) (fun w => by kernel_rfl) (fun v w' => Us w' v (srt ((la).map fewS))) (few16_us _ (la) w1 (HL.out.keep (HB.out.trans (hS.mono HB.out.size)) HSZ.out) (Nat.le_trans HLA.out (by decide)) (HSA.out.keep (HB.out.trans (hS.mono HB.out.size)))) (fun v w' hr hb => ⟨hS.trans (hb.mono hS.size), Flz.of hb, (show Us w' (updF f 3 v 3) (srt ((la).map fewS)) by rw [updF_self]; exact hr)⟩)
   ·intro f w1 hS hf aA hA
    have r38 := pA 38 0 hA sbAlf5 (by kernel_rfl) zsz rfl (hf 0 (by decide))
    have r39 := pA 39 1 hA sbAlf5 (by kernel_rfl) zsz rfl (hf 1 (by decide))
    have hu3 : Us w1 (f 3) (srt ((la).map fewS)) := (hf 3 (by decide))
    have e41 := pA 41 3 hA sbAlf5 (by kernel_rfl) zsz rfl rfl
    exact fC rfl rfl 11 #[(.tmp 38), (.tmp 39), (.tmp 41)] _ rfl #[.int .u64 (s : Int), .int .i64 n, f 3] (mp3 r38 r39 e41) (fun w => by kernel_rfl) _ (ofA_t s n m _ (srt ((la).map fewS)) HGD.out HM.out (asc_few _) w1 HSD.out (HL.out.keep (HB.out.trans (hS.mono HB.out.size)) HSZ.out) (len_few _ 10000 (Nat.le_trans HLA.out (by decide))) hu3) hS (fun _ _ ⟨zz, a, b⟩ => ⟨zz, uS.trans a, b⟩)
   ·intro f w1 hS hf aA hA
    obtain ⟨x42, hx42, hr42⟩ := hf 4 (by decide)
    have e42 := pA 42 4 hA sbAlf5 (by kernel_rfl) zsz rfl hx42
    exact flw_val rfl rfl (.tuple #[.agg #[.int .u64 (s : Int), x42], .int .i64 0]) (ex_move (.tmp 42) rfl e42) hS (Flz.refl _) ⟨x42, uS, hr42⟩
   ·intro f w1 hS hf aA hA
    obtain ⟨x37, hx37, hr37⟩ := hf 5 (by decide)
    have e37 := pA 37 5 hA sbAlf5 (by kernel_rfl) zsz rfl hx37
    exact flw_val rfl rfl (.agg #[.int .u64 (s : Int), x37]) (ex_extract (.tmp 37) 0 rfl e37 rfl) hS (Flz.refl _) ⟨x37, uS, hr37⟩
   ·intro f w1 hS hf aA hA
    obtain ⟨x37, hx37, hr37⟩ := hf 5 (by decide)
    have e37 := pA 37 5 hA sbAlf5 (by kernel_rfl) zsz rfl hx37
    exact fV rfl rfl _ (ex_extract (.tmp 37) 1 rfl e37 rfl) hS uS
   ·intro f w1 hS hf aA hA
    exact flw_wp rfl rfl (fun K hK => wp_alloc_row 28 rfl (.agg #[.int .u64 0, .slice none 0 0]) (fun w => by kernel_rfl) (hK _ _ (hS.alloc hS.size _) (Flz.al _ _) ⟨_, uS, hS.size, Has.made' _ _ _ _ rfl⟩))
  intro f x5 hS hf hap
  have h0 : f 0 = .int .u64 (s : Int) := hf 0 (by decide)
  have h1 : f 1 = .int .i64 n := hf 1 (by decide)
  have h2 : f 2 = .slice qa la.length ca := hf 2 (by decide)
  obtain ⟨v5_3, h3, hu3⟩ : ∃ v, f 3 = v ∧ Us x5 v (srt ((la).map fewS)) := ⟨_, rfl, (hf 3 (by decide))⟩
  clear hu3
  obtain ⟨v5_4, h4, -⟩ := hf 4 (by decide)
  obtain ⟨v5_5, h5, -⟩ := hf 5 (by decide)
  obtain ⟨v5_6, h6, hu6⟩ := hf 6 (by decide)
  have HU5_6 := Lib.hid hu6
  clear hu6
  have h7 : f 7 = .int .i64 0 := hf 7 (by decide)
  obtain ⟨b5_8, h8, hgb8, hhb8⟩ := hf 8 (by decide)
  clear hf hap
  clear zsz z0 z1 z2
  subst ha0
  simp only [slotsAlf5, putAll, h0, h1, h2, h3, h4, h5, h6, h7, h8, Act.put, List.setIfInBounds_toArray, List.set_cons_zero, List.set_cons_succ]
  clear h0 h1 h2 h3 h4 h5 h6 h7 h8
  refine tl_store rfl (by kernel_rfl) 28 (.tmp 9) (.tmp 43) rfl b5_8 ([.int .u64 (s : Int), v5_6]) _ rfl rfl _ hhb8 (by kernel_rfl) rfl (tb_ones _ HU5_6.out.one) ?_
  intro u5 hp8 hbl hot
  replace hS := hS.trans (hbl _ hgb8)
  replace HU5_6 := Lib.hid (HU5_6.out.hotb hhb8 ⟨_, _, _, rfl⟩ (by decide) (hbl 0 (Nat.zero_le _)).size hot)
  clear hbl hot hhb8
  try simp only [Act.put]
  refine tl_pure rfl (by kernel_rfl) (.int .i64 0) (ex_assign (.tmp 44) rfl rfl) ?_
  try simp only [Act.put, List.setIfInBounds_toArray, List.set_cons_zero, List.set_cons_succ]
  refine tl_nil ?_
  have HBW := Lib.hid HB.out.size
  replace HB := Lib.hid (HB.out.trans (hS.mono HB.out.size))
  clear hS
  have HGb5_8 : Hid (w.heap.size ≤ b5_8) := Lib.hid (Nat.le_trans HBW.out hgb8)
  have HX_b5_8 : Hid (Has u5 b5_8 28 ([.int .u64 (s : Int), v5_6])) := Lib.hid hp8
  clear hp8 hgb8
  clear HBW
  go_upto_region 6 with fail
  refine wp_act (fun a0 ha0 => ?_)
  have zsz : a0.tmps.size = 131 := by rw [ha0]; rfl
  have z0 : a0.eval (.tmp 0) = .int .u64 (s : Int) := by rw [ha0]; rfl
  have z1 : a0.eval (.tmp 1) = .int .i64 n := by rw [ha0]; rfl
  have z3 : a0.eval (.tmp 3) = .slice qb lb.length cb := by rw [ha0]; rfl
  refine wrO [] slotsAlf6 waitAlf6 [Fct.val Flz 0 (.int .u64 (s : Int)), Fct.val Flz 1 (.int .i64 n), Fct.val Flz 2 (.slice qb lb.length cb), Fct.obj 3 (fun v w => Us w v (srt ((lb).map fewS))) (fun _ _ _ h he => h.flz he), Fct.obj 4 (fun v w => ∃ zz, v = .tuple #[.agg #[.int .u64 (s : Int), zz], .int .i64 0] ∧ Cs w zz (tabP s m (srt ((lb).map fewS)))) (fun _ _ _ ⟨zz, a, b⟩ he => ⟨zz, a, b.flz he⟩), Fct.obj 5 (fun v w => ∃ zz, v = .tuple #[.agg #[.int .u64 (s : Int), zz], .int .i64 0] ∧ Cs w zz (tabP s m (srt ((lb).map fewS)))) (fun _ _ _ ⟨zz, a, b⟩ he => ⟨zz, a, b.flz he⟩), Fct.obj 6 (fun v w => ∃ zz, v = .agg #[.int .u64 (s : Int), zz] ∧ Cs w zz (tabP s m (srt ((lb).map fewS)))) (fun _ _ _ ⟨zz, a, b⟩ he => ⟨zz, a, b.flz he⟩), Fct.val Flz 7 (.int .i64 0), Fct.obj 8 (fun v w => ∃ g, v = .pointer (some ⟨g, 0, none⟩) ∧ u5.heap.size ≤ g ∧ Has w g 28 ([.int .u64 0, .slice none 0 0])) (fun _ _ _ ⟨g, a, b, c⟩ he => ⟨g, a, b, c.flz he (by decide)⟩)] (fun w' => Below u5.heap.size u5 w') _ 9 2 chkAlf6 (by kernel_rfl) (by kernel_rfl) (by kernel_rfl) (by decide) (Below.refl _ _) ?_ ?_
  ·refine lt_s (lt_s (lt_s (lt_s (lt_s (lt_s (lt_s (lt_s (lt_s (lt_0) ?_) ?_) ?_) ?_) ?_) ?_) ?_) ?_) ?_
   ·intro f w1 hS hf aA hA
    have r0 := pO 0 hA (by kernel_rfl) z0
    exact fV rfl rfl _ (ex_move (.tmp 0) rfl r0) hS uS
   ·intro f w1 hS hf aA hA
    have r1 := pO 1 hA (by kernel_rfl) z1
    exact fV rfl rfl _ (ex_move (.tmp 1) rfl r1) hS uS
   ·intro f w1 hS hf aA hA
    have r3 := pO 3 hA (by kernel_rfl) z3
    exact fV rfl rfl _ (ex_move (.tmp 3) rfl r3) hS uS
   ·intro f w1 hS hf aA hA
    have r48 := pA 48 2 hA sbAlf6 (by kernel_rfl) zsz rfl (hf 2 (by decide))
    exact flw_call rfl rfl 12 #[(.tmp 48)] _ rfl #[.slice qb lb.length cb] (mp1 r48) (fun w => by kernel_rfl) (fun v w' => Us w' v (srt ((lb).map fewS))) (few16_us _ (lb) w1 (HL.out.keep (HB.out.trans (hS.mono HB.out.size)) HSZ.out) (Nat.le_trans HLB.out (by decide)) (HSB.out.keep (HB.out.trans (hS.mono HB.out.size)))) (fun v w' hr hb => ⟨hS.trans (hb.mono hS.size), Flz.of hb, (show Us w' (updF f 3 v 3) (srt ((lb).map fewS)) by rw [updF_self]; exact hr)⟩)
   ·intro f w1 hS hf aA hA
    have r46 := pA 46 0 hA sbAlf6 (by kernel_rfl) zsz rfl (hf 0 (by decide))
    have r47 := pA 47 1 hA sbAlf6 (by kernel_rfl) zsz rfl (hf 1 (by decide))
    have hu3 : Us w1 (f 3) (srt ((lb).map fewS)) := (hf 3 (by decide))
    have e49 := pA 49 3 hA sbAlf6 (by kernel_rfl) zsz rfl rfl
    exact fC rfl rfl 11 #[(.tmp 46), (.tmp 47), (.tmp 49)] _ rfl #[.int .u64 (s : Int), .int .i64 n, f 3] (mp3 r46 r47 e49) (fun w => by kernel_rfl) _ (ofA_t s n m _ (srt ((lb).map fewS)) HGD.out HM.out (asc_few _) w1 HSD.out (HL.out.keep (HB.out.trans (hS.mono HB.out.size)) HSZ.out) (len_few _ 10000 (Nat.le_trans HLB.out (by decide))) hu3) hS (fun _ _ ⟨zz, a, b⟩ => ⟨zz, uS.trans a, b⟩)
   ·intro f w1 hS hf aA hA
    obtain ⟨x50, hx50, hr50⟩ := hf 4 (by decide)
    have e50 := pA 50 4 hA sbAlf6 (by kernel_rfl) zsz rfl hx50
    exact flw_val rfl rfl (.tuple #[.agg #[.int .u64 (s : Int), x50], .int .i64 0]) (ex_move (.tmp 50) rfl e50) hS (Flz.refl _) ⟨x50, uS, hr50⟩
   ·intro f w1 hS hf aA hA
    obtain ⟨x45, hx45, hr45⟩ := hf 5 (by decide)
    have e45 := pA 45 5 hA sbAlf6 (by kernel_rfl) zsz rfl hx45
    exact flw_val rfl rfl (.agg #[.int .u64 (s : Int), x45]) (ex_extract (.tmp 45) 0 rfl e45 rfl) hS (Flz.refl _) ⟨x45, uS, hr45⟩
   ·intro f w1 hS hf aA hA
    obtain ⟨x45, hx45, hr45⟩ := hf 5 (by decide)
    have e45 := pA 45 5 hA sbAlf6 (by kernel_rfl) zsz rfl hx45
    exact fV rfl rfl _ (ex_extract (.tmp 45) 1 rfl e45 rfl) hS uS
   ·intro f w1 hS hf aA hA
    exact flw_wp rfl rfl (fun K hK => wp_alloc_row 28 rfl (.agg #[.int .u64 0, .slice none 0 0]) (fun w => by kernel_rfl) (hK _ _ (hS.alloc hS.size _) (Flz.al _ _) ⟨_, uS, hS.size, Has.made' _ _ _ _ rfl⟩))
  intro f x6 hS hf hap
  have h0 : f 0 = .int .u64 (s : Int) := hf 0 (by decide)
  have h1 : f 1 = .int .i64 n := hf 1 (by decide)
  have h2 : f 2 = .slice qb lb.length cb := hf 2 (by decide)
  obtain ⟨v6_3, h3, hu3⟩ : ∃ v, f 3 = v ∧ Us x6 v (srt ((lb).map fewS)) := ⟨_, rfl, (hf 3 (by decide))⟩
  clear hu3
  obtain ⟨v6_4, h4, -⟩ := hf 4 (by decide)
  obtain ⟨v6_5, h5, -⟩ := hf 5 (by decide)
  obtain ⟨v6_6, h6, hu6⟩ := hf 6 (by decide)
  have HU6_6 := Lib.hid hu6
  clear hu6
  have h7 : f 7 = .int .i64 0 := hf 7 (by decide)
  obtain ⟨b6_8, h8, hgb8, hhb8⟩ := hf 8 (by decide)
  clear hf hap
  clear zsz z0 z1 z3
  subst ha0
  simp only [slotsAlf6, putAll, h0, h1, h2, h3, h4, h5, h6, h7, h8, Act.put, List.setIfInBounds_toArray, List.set_cons_zero, List.set_cons_succ]
  clear h0 h1 h2 h3 h4 h5 h6 h7 h8
  refine tl_store rfl (by kernel_rfl) 28 (.tmp 11) (.tmp 51) rfl b6_8 ([.int .u64 (s : Int), v6_6]) _ rfl rfl _ hhb8 (by kernel_rfl) rfl (tb_ones _ HU6_6.out.one) ?_
  intro u6 hp8 hbl hot
  replace hS := hS.trans (hbl _ hgb8)
  replace HU6_6 := Lib.hid (HU6_6.out.hotb hhb8 ⟨_, _, _, rfl⟩ (by decide) (hbl 0 (Nat.zero_le _)).size hot)
  clear hbl hot hhb8
  try simp only [Act.put]
  refine tl_pure rfl (by kernel_rfl) (.int .i64 0) (ex_assign (.tmp 52) rfl rfl) ?_
  try simp only [Act.put, List.setIfInBounds_toArray, List.set_cons_zero, List.set_cons_succ]
  refine tl_nil ?_
  replace HX_b5_8 := Lib.hid (HX_b5_8.out.keepB hS)
  replace HU5_6 := Lib.hid (HU5_6.out.keep hS)
  have HBW := Lib.hid HB.out.size
  replace HB := Lib.hid (HB.out.trans (hS.mono HB.out.size))
  clear hS
  have HGb6_8 : Hid (w.heap.size ≤ b6_8) := Lib.hid (Nat.le_trans HBW.out hgb8)
  have HX_b6_8 : Hid (Has u6 b6_8 28 ([.int .u64 (s : Int), v6_6])) := Lib.hid hp8
  clear hp8 hgb8
  clear HBW
  go_upto_region 7 with fail
  refine wp_act (fun a0 ha0 => ?_)
  have zsz : a0.tmps.size = 131 := by rw [ha0]; rfl
  have z10 : a0.eval (.tmp 10) = .int .i64 0 := by rw [ha0]; rfl
  have z12 : a0.eval (.tmp 12) = .int .i64 0 := by rw [ha0]; rfl
  refine wrO [] slotsAlt7 waitAlt7 [Fct.val Flz 0 (.int .i64 0), Fct.val Flz 1 (.bool false), Fct.val Flz 2 (.bool false), Fct.val Flz 3 (.int .i64 0), Fct.val Flz 4 (.bool false), Fct.val Flz 5 (.bool false)] (fun w' => Below u6.heap.size u6 w') _ 6 0 chkAlt7 (by kernel_rfl) (by kernel_rfl) (by kernel_rfl) (by decide) (Below.refl _ _) ?_ ?_
  ·refine lt_s (lt_s (lt_s (lt_s (lt_s (lt_s (lt_0) ?_) ?_) ?_) ?_) ?_) ?_
   ·intro f w1 hS hf aA hA
    have r10 := pO 10 hA (by kernel_rfl) z10
    exact fV rfl rfl _ (ex_move (.tmp 10) rfl r10) hS uS
   ·intro f w1 hS hf aA hA
    have r53 := pA 53 0 hA sbAlt7 (by kernel_rfl) zsz rfl (hf 0 (by decide))
    exact fV rfl rfl _ (Eq.trans (ex_int .neq _ _ (.tmp 53) _ rfl .i64 0 0 r53 rfl (.bool ((0 : Int) != (0 : Int))) (fun _ => rfl)) (by rw [(by decide : ((0 : Int) != (0 : Int)) = false)])) hS uS
   ·intro f w1 hS hf aA hA
    have r54 := pA 54 1 hA sbAlt7 (by kernel_rfl) zsz rfl (hf 1 (by decide))
    exact fV rfl rfl _ (ex_move (.tmp 54) rfl r54) hS uS
   ·intro f w1 hS hf aA hA
    have t55 := pG 55 2 hA sbAlt7 (by kernel_rfl) zsz rfl (hf 2 (by decide))
    have r12 := pO 12 hA (by kernel_rfl) z12
    exact fV rfl ((wanted_of rfl 55 rfl t55).trans rfl) _ (ex_move (.tmp 12) rfl r12) hS uS
   ·intro f w1 hS hf aA hA
    have t55 := pG 55 2 hA sbAlt7 (by kernel_rfl) zsz rfl (hf 2 (by decide))
    have r56 := pA 56 3 hA sbAlt7 (by kernel_rfl) zsz rfl (hf 3 (by decide))
    exact fV rfl ((wanted_of rfl 55 rfl t55).trans rfl) _ (Eq.trans (ex_int .neq _ _ (.tmp 56) _ rfl .i64 0 0 r56 rfl (.bool ((0 : Int) != (0 : Int))) (fun _ => rfl)) (by rw [(by decide : ((0 : Int) != (0 : Int)) = false)])) hS uS
   ·intro f w1 hS hf aA hA
    have r55 := pA 55 2 hA sbAlt7 (by kernel_rfl) zsz rfl (hf 2 (by decide))
    have r57 := pA 57 4 hA sbAlt7 (by kernel_rfl) zsz rfl (hf 4 (by decide))
    exact fV rfl rfl (.bool false) (ex_pick (.tmp 55) _ (.tmp 57) rfl false r55 ((if_neg (by decide)).trans r57)) hS uS
  intro f u7 hS hf hap
  have h0 : f 0 = .int .i64 0 := hf 0 (by decide)
  have h1 : f 1 = .bool false := hf 1 (by decide)
  have h2 : f 2 = .bool false := hf 2 (by decide)
  have h3 : f 3 = .int .i64 0 := hf 3 (by decide)
  have h4 : f 4 = .bool false := hf 4 (by decide)
  have h5 : f 5 = .bool false := hf 5 (by decide)
  clear hf hap
  clear zsz z10 z12
  subst ha0
  simp only [slotsAlt7, putAll, h0, h1, h2, h3, h4, h5, Act.put, List.setIfInBounds_toArray, List.set_cons_zero, List.set_cons_succ]
  clear h0 h1 h2 h3 h4 h5
  refine tl_nil ?_
  replace HX_b5_8 := Lib.hid (HX_b5_8.out.keepB hS)
  replace HU5_6 := Lib.hid (HU5_6.out.keep hS)
  replace HX_b6_8 := Lib.hid (HX_b6_8.out.keepB hS)
  replace HU6_6 := Lib.hid (HU6_6.out.keep hS)
  replace HB := Lib.hid (HB.out.trans (hS.mono HB.out.size))
  clear hS
  go_upto_region 9 with fail
  refine wp_act (fun a0 ha0 => ?_)
  have zsz : a0.tmps.size = 131 := by rw [ha0]; rfl
  have z9 : a0.eval (.tmp 9) = .pointer (some ⟨b5_8, 0, none⟩) := by rw [ha0]; rfl
  have z11 : a0.eval (.tmp 11) = .pointer (some ⟨b6_8, 0, none⟩) := by rw [ha0]; rfl
  refine wrO [] slotsAlt9 waitAlt9 [Fct.val Flz 0 (.agg #[.int .u64 (s : Int), v5_6]), Fct.val Flz 1 (.agg #[.int .u64 (s : Int), v6_6]), Fct.obj 2 (fun v w => ∃ zz, v = .tuple #[.agg #[.int .u64 (s : Int), zz], .int .i64 0] ∧ Cs w zz (List.zipWith minusC (tabP s m (srt ((la).map fewS))) (tabP s m (srt ((lb).map fewS))))) (fun _ _ _ ⟨zz, a, b⟩ he => ⟨zz, a, b.flz he⟩), Fct.obj 3 (fun v w => ∃ zz, v = .tuple #[.agg #[.int .u64 (s : Int), zz], .int .i64 0] ∧ Cs w zz (List.zipWith minusC (tabP s m (srt ((la).map fewS))) (tabP s m (srt ((lb).map fewS))))) (fun _ _ _ ⟨zz, a, b⟩ he => ⟨zz, a, b.flz he⟩), Fct.obj 4 (fun v w => ∃ zz, v = .agg #[.int .u64 (s : Int), zz] ∧ Cs w zz (List.zipWith minusC (tabP s m (srt ((la).map fewS))) (tabP s m (srt ((lb).map fewS))))) (fun _ _ _ ⟨zz, a, b⟩ he => ⟨zz, a, b.flz he⟩), Fct.val Flz 5 (.int .i64 0), Fct.obj 6 (fun v w => ∃ g, v = .pointer (some ⟨g, 0, none⟩) ∧ u7.heap.size ≤ g ∧ Has w g 28 ([.int .u64 0, .slice none 0 0])) (fun _ _ _ ⟨g, a, b, c⟩ he => ⟨g, a, b, c.flz he (by decide)⟩)] (fun w' => Below u7.heap.size u7 w') _ 7 2 chkAlt9 (by kernel_rfl) (by kernel_rfl) (by kernel_rfl) (by decide) (Below.refl _ _) ?_ ?_
  ·refine lt_s (lt_s (lt_s (lt_s (lt_s (lt_s (lt_s (lt_0) ?_) ?_) ?_) ?_) ?_) ?_) ?_
   ·intro f w1 hS hf aA hA
    have r9 := pO 9 hA (by kernel_rfl) z9
    exact fV rfl rfl _ (ex_loadR 28 (.tmp 9) rfl ⟨b5_8, 0, none⟩ r9 (fun _ => by kernel_rfl) [.int .u64 (s : Int), v5_6] (by kernel_rfl) ((HX_b5_8.out.keepB hS).part [.int .u64 (s : Int), v5_6] 0 (fun j u hu => by rw [Nat.zero_add]; exact hu))) hS uS
   ·intro f w1 hS hf aA hA
    have r11 := pO 11 hA (by kernel_rfl) z11
    exact fV rfl rfl _ (ex_loadR 28 (.tmp 11) rfl ⟨b6_8, 0, none⟩ r11 (fun _ => by kernel_rfl) [.int .u64 (s : Int), v6_6] (by kernel_rfl) ((HX_b6_8.out.keepB hS).part [.int .u64 (s : Int), v6_6] 0 (fun j u hu => by rw [Nat.zero_add]; exact hu))) hS uS
   ·intro f w1 hS hf aA hA
    have r60 := pA 60 0 hA sbAlt9 (by kernel_rfl) zsz rfl (hf 0 (by decide))
    have r61 := pA 61 1 hA sbAlt9 (by kernel_rfl) zsz rfl (hf 1 (by decide))
    exact fC rfl rfl 22 #[(.tmp 60), (.tmp 61)] _ rfl #[.agg #[.int .u64 (s : Int), v5_6], .agg #[.int .u64 (s : Int), v6_6]] (mp2 r60 r61) (fun w => by kernel_rfl) _ (minusS_t s _ _ _ _ (tabP_good HGM.out) (by rw [tabP_len, tabP_len]) w1 (tabP_small 1000000 (Nat.le_trans HM4.out (by decide))) (HU5_6.out.keep hS) (HU6_6.out.keep hS)) hS (fun _ _ ⟨zz, a, b⟩ => ⟨zz, uS.trans a, b⟩)
   ·intro f w1 hS hf aA hA
    obtain ⟨x62, hx62, hr62⟩ := hf 2 (by decide)
    have e62 := pA 62 2 hA sbAlt9 (by kernel_rfl) zsz rfl hx62
    exact flw_val rfl rfl (.tuple #[.agg #[.int .u64 (s : Int), x62], .int .i64 0]) (ex_move (.tmp 62) rfl e62) hS (Flz.refl _) ⟨x62, uS, hr62⟩
   ·intro f w1 hS hf aA hA
    obtain ⟨x59, hx59, hr59⟩ := hf 3 (by decide)
    have e59 := pA 59 3 hA sbAlt9 (by kernel_rfl) zsz rfl hx59
    exact flw_val rfl rfl (.agg #[.int .u64 (s : Int), x59]) (ex_extract (.tmp 59) 0 rfl e59 rfl) hS (Flz.refl _) ⟨x59, uS, hr59⟩
   ·intro f w1 hS hf aA hA
    obtain ⟨x59, hx59, hr59⟩ := hf 3 (by decide)
    have e59 := pA 59 3 hA sbAlt9 (by kernel_rfl) zsz rfl hx59
    exact fV rfl rfl _ (ex_extract (.tmp 59) 1 rfl e59 rfl) hS uS
   ·intro f w1 hS hf aA hA
    exact flw_wp rfl rfl (fun K hK => wp_alloc_row 28 rfl (.agg #[.int .u64 0, .slice none 0 0]) (fun w => by kernel_rfl) (hK _ _ (hS.alloc hS.size _) (Flz.al _ _) ⟨_, uS, hS.size, Has.made' _ _ _ _ rfl⟩))
  intro f x9 hS hf hap
  have h0 : f 0 = .agg #[.int .u64 (s : Int), v5_6] := hf 0 (by decide)
  have h1 : f 1 = .agg #[.int .u64 (s : Int), v6_6] := hf 1 (by decide)
  obtain ⟨v9_2, h2, -⟩ := hf 2 (by decide)
  obtain ⟨v9_3, h3, -⟩ := hf 3 (by decide)
  obtain ⟨v9_4, h4, hu4⟩ := hf 4 (by decide)
  have HU9_4 := Lib.hid hu4
  clear hu4
  have h5 : f 5 = .int .i64 0 := hf 5 (by decide)
  obtain ⟨b9_6, h6, hgb6, hhb6⟩ := hf 6 (by decide)
  clear hf hap
  clear zsz z9 z11
  subst ha0
  simp only [slotsAlt9, putAll, h0, h1, h2, h3, h4, h5, h6, Act.put, List.setIfInBounds_toArray, List.set_cons_zero, List.set_cons_succ]
  clear h0 h1 h2 h3 h4 h5 h6
  refine tl_store rfl (by kernel_rfl) 28 (.tmp 13) (.tmp 63) rfl b9_6 ([.int .u64 (s : Int), v9_4]) _ rfl rfl _ hhb6 (by kernel_rfl) rfl (tb_ones _ HU9_4.out.one) ?_
  intro u9 hp6 hbl hot
  replace hS := hS.trans (hbl _ hgb6)
  replace HU9_4 := Lib.hid (HU9_4.out.hotb hhb6 ⟨_, _, _, rfl⟩ (by decide) (hbl 0 (Nat.zero_le _)).size hot)
  clear hbl hot hhb6
  try simp only [Act.put]
  refine tl_pure rfl (by kernel_rfl) (.int .i64 0) (ex_assign (.tmp 64) rfl rfl) ?_
  try simp only [Act.put, List.setIfInBounds_toArray, List.set_cons_zero, List.set_cons_succ]
  refine tl_nil ?_
  replace HX_b5_8 := Lib.hid (HX_b5_8.out.keepB hS)
  replace HU5_6 := Lib.hid (HU5_6.out.keep hS)
  replace HX_b6_8 := Lib.hid (HX_b6_8.out.keepB hS)
  replace HU6_6 := Lib.hid (HU6_6.out.keep hS)
  have HBW := Lib.hid HB.out.size
  replace HB := Lib.hid (HB.out.trans (hS.mono HB.out.size))
  clear hS
  have HGb9_6 : Hid (w.heap.size ≤ b9_6) := Lib.hid (Nat.le_trans HBW.out hgb6)
  have HX_b9_6 : Hid (Has u9 b9_6 28 ([.int .u64 (s : Int), v9_4])) := Lib.hid hp6
  clear hp6 hgb6
  clear HBW
  obtain ⟨d, hd⟩ : ∃ d, List.zipWith minusC (tabP s m (srt ((la).map fewS))) (tabP s m (srt ((lb).map fewS))) = d := ⟨_, rfl⟩
  have HDL : Hid (d.length = m) := Lib.hid (by rw [← hd, List.length_zipWith, tabP_len, tabP_len]; omega)
  have HDO : Hid (okT d) := Lib.hid (by rw [← hd]; exact okT_zip _ _)
  rw [hd] at HU9_4
  clear hd
  have HDM : Hid (d.length ≤ 1000000) := Lib.hid (by rw [HDL.out]; have := HM4.out; omega)
  have HDM5 : Hid (d.length ≤ 100000) := Lib.hid (by rw [HDL.out]; have := HM4.out; omega)
  have HDG : Hid (goodN (d.length : Int) = true) := Lib.hid (by rw [HDL.out]; exact HGM.out)
  obtain ⟨q, hq⟩ : ∃ q, peelP s d = q := ⟨_, rfl⟩
  have HQQ := Lib.hid hq
  obtain ⟨ok, hok⟩ : ∃ ok, okP q = ok := ⟨_, rfl⟩
  have HOK := Lib.hid hok
  clear hok hq
  cases ok
  ·go_upto_region 10 with fail
   refine wp_act (fun a0 ha0 => ?_)
   have zsz : a0.tmps.size = 131 := by rw [ha0]; rfl
   have z13 : a0.eval (.tmp 13) = .pointer (some ⟨b9_6, 0, none⟩) := by rw [ha0]; rfl
   refine wrO [] slotsAltf10 waitAltf10 [Fct.val Flz 0 (.agg #[.int .u64 (s : Int), v9_4]), Fct.obj 1 (fun v w => ∃ zz, v = .tuple #[.agg #[(fl zz 0), (fl zz 1), .int .u64 (s : Int), (fl zz 2)], .int .i64 10] ∧ ResR (([] : List Su)) (([] : List Su)) (q.1) w zz) (fun _ _ _ ⟨zz, a, b⟩ he => ⟨zz, a, b.flz he⟩), Fct.obj 2 (fun v w => ∃ zz, v = .tuple #[.agg #[(fl zz 0), (fl zz 1), .int .u64 (s : Int), (fl zz 2)], .int .i64 10] ∧ ResR (([] : List Su)) (([] : List Su)) (q.1) w zz) (fun _ _ _ ⟨zz, a, b⟩ he => ⟨zz, a, b.flz he⟩), Fct.obj 3 (fun v w => ∃ zz, v = .agg #[(fl zz 0), (fl zz 1), .int .u64 (s : Int), (fl zz 2)] ∧ ResR (([] : List Su)) (([] : List Su)) (q.1) w zz) (fun _ _ _ ⟨zz, a, b⟩ he => ⟨zz, a, b.flz he⟩), Fct.val Flz 4 (.int .i64 10), Fct.obj 5 (fun v w => ∃ g, v = .pointer (some ⟨g, 0, none⟩) ∧ u9.heap.size ≤ g ∧ Has w g 30 ([.slice none 0 0, .slice none 0 0, .int .u64 0, .slice none 0 0])) (fun _ _ _ ⟨g, a, b, c⟩ he => ⟨g, a, b, c.flz he (by decide)⟩)] (fun w' => Below u9.heap.size u9 w') _ 6 2 chkAltf10 (by kernel_rfl) (by kernel_rfl) (by kernel_rfl) (by decide) (Below.refl _ _) ?_ ?_
   ·refine lt_s (lt_s (lt_s (lt_s (lt_s (lt_s (lt_0) ?_) ?_) ?_) ?_) ?_) ?_
    ·intro f w1 hS hf aA hA
     have r13 := pO 13 hA (by kernel_rfl) z13
     exact fV rfl rfl _ (ex_loadR 28 (.tmp 13) rfl ⟨b9_6, 0, none⟩ r13 (fun _ => by kernel_rfl) [.int .u64 (s : Int), v9_4] (by kernel_rfl) ((HX_b9_6.out.keepB hS).part [.int .u64 (s : Int), v9_4] 0 (fun j u hu => by rw [Nat.zero_add]; exact hu))) hS uS
    ·intro f w1 hS hf aA hA
     have r66 := pA 66 0 hA sbAltf10 (by kernel_rfl) zsz rfl (hf 0 (by decide))
     exact fC rfl rfl 9 #[(.tmp 66)] _ rfl #[.agg #[.int .u64 (s : Int), v9_4]] (mp1 r66) (fun w => by kernel_rfl) _ (allQ false 10 (([] : List Su)) (([] : List Su)) s _ (d) q HQQ.out HOK.out rfl rfl rfl w1 HSD.out (HL.out.keep (HB.out.trans (hS.mono HB.out.size)) HSZ.out) HDM.out HDG.out (HU9_4.out.keep hS)) hS (fun _ _ ⟨zz, a, b⟩ => ⟨zz, uS.trans a, b⟩)
    ·intro f w1 hS hf aA hA
     obtain ⟨x67, hx67, hr67⟩ := hf 1 (by decide)
     have e67 := pA 67 1 hA sbAltf10 (by kernel_rfl) zsz rfl hx67
     exact flw_val rfl rfl (.tuple #[.agg #[(fl x67 0), (fl x67 1), .int .u64 (s : Int), (fl x67 2)], .int .i64 10]) (ex_move (.tmp 67) rfl e67) hS (Flz.refl _) ⟨x67, uS, hr67⟩
    ·intro f w1 hS hf aA hA
     obtain ⟨x65, hx65, hr65⟩ := hf 2 (by decide)
     have e65 := pA 65 2 hA sbAltf10 (by kernel_rfl) zsz rfl hx65
     exact flw_val rfl rfl (.agg #[(fl x65 0), (fl x65 1), .int .u64 (s : Int), (fl x65 2)]) (ex_extract (.tmp 65) 0 rfl e65 rfl) hS (Flz.refl _) ⟨x65, uS, hr65⟩
    ·intro f w1 hS hf aA hA
     obtain ⟨x65, hx65, hr65⟩ := hf 2 (by decide)
     have e65 := pA 65 2 hA sbAltf10 (by kernel_rfl) zsz rfl hx65
     exact fV rfl rfl _ (ex_extract (.tmp 65) 1 rfl e65 rfl) hS uS
    ·intro f w1 hS hf aA hA
     exact flw_wp rfl rfl (fun K hK => wp_alloc_row 30 rfl (.agg #[.slice none 0 0, .slice none 0 0, .int .u64 0, .slice none 0 0]) (fun w => by kernel_rfl) (hK _ _ (hS.alloc hS.size _) (Flz.al _ _) ⟨_, uS, hS.size, Has.made' _ _ _ _ rfl⟩))
   intro f x10 hS hf hap
   have h0 : f 0 = .agg #[.int .u64 (s : Int), v9_4] := hf 0 (by decide)
   obtain ⟨v10_1, h1, -⟩ := hf 1 (by decide)
   obtain ⟨v10_2, h2, -⟩ := hf 2 (by decide)
   obtain ⟨v10_3, h3, hu3⟩ := hf 3 (by decide)
   have HU10_3 := Lib.hid hu3
   clear hu3
   have h4 : f 4 = .int .i64 10 := hf 4 (by decide)
   obtain ⟨b10_5, h5, hgb5, hhb5⟩ := hf 5 (by decide)
   clear hf hap
   clear zsz z13
   subst ha0
   simp only [slotsAltf10, putAll, h0, h1, h2, h3, h4, h5, Act.put, List.setIfInBounds_toArray, List.set_cons_zero, List.set_cons_succ]
   clear h0 h1 h2 h3 h4 h5
   refine tl_store rfl (by kernel_rfl) 30 (.tmp 15) (.tmp 68) rfl b10_5 ([(fl v10_3 0), (fl v10_3 1), .int .u64 ((s : Int)), (fl v10_3 2)]) _ rfl rfl _ hhb5 (by kernel_rfl) rfl (rs_ones HU10_3.out.p.oneC HU10_3.out.m.oneC _ HU10_3.out.l.oneC) ?_
   intro u10 hp5 hbl hot
   replace hS := hS.trans (hbl _ hgb5)
   replace HU10_3 := Lib.hid (HU10_3.out.hotr hhb5 hot)
   clear hbl hot hhb5
   try simp only [Act.put]
   refine tl_pure rfl (by kernel_rfl) (.int .i64 10) (ex_assign (.tmp 69) rfl rfl) ?_
   try simp only [Act.put, List.setIfInBounds_toArray, List.set_cons_zero, List.set_cons_succ]
   refine tl_nil ?_
   replace HX_b5_8 := Lib.hid (HX_b5_8.out.keepB hS)
   replace HU5_6 := Lib.hid (HU5_6.out.keep hS)
   replace HX_b6_8 := Lib.hid (HX_b6_8.out.keepB hS)
   replace HU6_6 := Lib.hid (HU6_6.out.keep hS)
   replace HX_b9_6 := Lib.hid (HX_b9_6.out.keepB hS)
   replace HU9_4 := Lib.hid (HU9_4.out.keep hS)
   have HBW := Lib.hid HB.out.size
   replace HB := Lib.hid (HB.out.trans (hS.mono HB.out.size))
   clear hS
   have HGb10_5 : Hid (w.heap.size ≤ b10_5) := Lib.hid (Nat.le_trans HBW.out hgb5)
   have HX_b10_5 : Hid (Has u10 b10_5 30 ([(fl v10_3 0), (fl v10_3 1), .int .u64 ((s : Int)), (fl v10_3 2)])) := Lib.hid hp5
   clear hp5 hgb5
   clear HBW
   go_upto_region 11 with fail
   refine wp_act (fun a0 ha0 => ?_)
   have zsz : a0.tmps.size = 131 := by rw [ha0]; rfl
   have z16 : a0.eval (.tmp 16) = .int .i64 10 := by rw [ha0]; rfl
   refine wrO [] slotsAltf11 waitAltf11 [Fct.val Flz 0 (.int .i64 10), Fct.val Flz 1 (.bool true)] (fun w' => Below u10.heap.size u10 w') _ 2 0 chkAltf11 (by kernel_rfl) (by kernel_rfl) (by kernel_rfl) (by decide) (Below.refl _ _) ?_ ?_
   ·refine lt_s (lt_s (lt_0) ?_) ?_
    ·intro f w1 hS hf aA hA
     have r16 := pO 16 hA (by kernel_rfl) z16
     exact fV rfl rfl _ (ex_move (.tmp 16) rfl r16) hS uS
    ·intro f w1 hS hf aA hA
     have r70 := pA 70 0 hA sbAltf11 (by kernel_rfl) zsz rfl (hf 0 (by decide))
     exact fV rfl rfl _ (Eq.trans (ex_int .neq _ _ (.tmp 70) _ rfl .i64 10 0 r70 rfl (.bool ((10 : Int) != (0 : Int))) (fun _ => rfl)) (by rw [(by decide : ((10 : Int) != (0 : Int)) = true)])) hS uS
   intro f u11 hS hf hap
   have h0 : f 0 = .int .i64 10 := hf 0 (by decide)
   have h1 : f 1 = .bool true := hf 1 (by decide)
   clear hf hap
   clear zsz z16
   subst ha0
   simp only [slotsAltf11, putAll, h0, h1, Act.put, List.setIfInBounds_toArray, List.set_cons_zero, List.set_cons_succ]
   clear h0 h1
   refine tl_nil ?_
   replace HX_b5_8 := Lib.hid (HX_b5_8.out.keepB hS)
   replace HU5_6 := Lib.hid (HU5_6.out.keep hS)
   replace HX_b6_8 := Lib.hid (HX_b6_8.out.keepB hS)
   replace HU6_6 := Lib.hid (HU6_6.out.keep hS)
   replace HX_b9_6 := Lib.hid (HX_b9_6.out.keepB hS)
   replace HU9_4 := Lib.hid (HU9_4.out.keep hS)
   replace HX_b10_5 := Lib.hid (HX_b10_5.out.keepB hS)
   replace HU10_3 := Lib.hid (HU10_3.out.keep hS)
   replace HB := Lib.hid (HB.out.trans (hS.mono HB.out.size))
   clear hS
   go_wp2_with fail
   go_ret
   exact ⟨rfl, HB.out⟩
  ·have HPA : Hid ((srt q.2.1).length ≤ 10000) := Lib.hid (by rw [← HQQ.out]; exact Nat.le_trans (len_srt_le _) (Nat.le_trans plus_le (by decide)))
   have HPB : Hid ((srt q.2.2).length ≤ 10000) := Lib.hid (by rw [← HQQ.out]; exact Nat.le_trans (len_srt_le _) (Nat.le_trans minus_le (by decide)))
   obtain ⟨hk1, hk2⟩ := peel_makes (s := s) HDO.out (by rw [HQQ.out]; exact HOK.out)
   rw [HQQ.out, HDL.out] at hk1
   rw [HQQ.out] at hk2
   have HZD : Hid (List.zipWith minusC (tabP s m (srt q.2.1)) (tabP s m (srt q.2.2)) = d) := Lib.hid hk1.symm
   have HZM5 : Hid ((List.zipWith minusC (tabP s m (srt q.2.1)) (tabP s m (srt q.2.2))).length ≤ 100000) := Lib.hid (by rw [HZD.out]; exact HDM5.out)
   have HB1 : Hid ((((botU (srt q.2.1) (srt q.2.2)).length : Nat) : Int) = 0) := Lib.hid (by rw [hk2]; rfl)
   have HQM : Hid (q.1.length ≤ 1000000) := Lib.hid (by rw [← HQQ.out, peel_len]; exact HDM.out)
   have HQZ : Hid (zeroT (q.1) = true) := Lib.hid (okP_parts HOK.out)
   have HCN : Hid (cntT (d) = IntKind.i64.wrap (((srt q.2.1).length : Int) - ((srt q.2.2).length : Int))) := Lib.hid (by
    have h8 := cnt_minus (s := s) (srt q.2.1) (srt q.2.2) HGM.out HPA.out HPB.out
    rw [show List.zipWith minusC (layA putC s (srt q.2.1) (List.replicate m zC)) (layA putC s (srt q.2.2) (List.replicate m zC)) = d from HZD.out] at h8
    rw [h8]
    exact (wrap_small (by have := HPA.out; have := HPB.out; omega)).symm)
   clear hk1 hk2
   go_upto_region 10 with fail
   refine wp_act (fun a0 ha0 => ?_)
   have zsz : a0.tmps.size = 131 := by rw [ha0]; rfl
   have z13 : a0.eval (.tmp 13) = .pointer (some ⟨b9_6, 0, none⟩) := by rw [ha0]; rfl
   refine wrO [] slotsAltf10 waitAltf10 [Fct.val Flz 0 (.agg #[.int .u64 (s : Int), v9_4]), Fct.obj 1 (fun v w => ∃ zz, v = .tuple #[.agg #[(fl zz 0), (fl zz 1), .int .u64 (s : Int), (fl zz 2)], .int .i64 0] ∧ ResR (srt q.2.1) (srt q.2.2) (q.1) w zz) (fun _ _ _ ⟨zz, a, b⟩ he => ⟨zz, a, b.flz he⟩), Fct.obj 2 (fun v w => ∃ zz, v = .tuple #[.agg #[(fl zz 0), (fl zz 1), .int .u64 (s : Int), (fl zz 2)], .int .i64 0] ∧ ResR (srt q.2.1) (srt q.2.2) (q.1) w zz) (fun _ _ _ ⟨zz, a, b⟩ he => ⟨zz, a, b.flz he⟩), Fct.obj 3 (fun v w => ∃ zz, v = .agg #[(fl zz 0), (fl zz 1), .int .u64 (s : Int), (fl zz 2)] ∧ ResR (srt q.2.1) (srt q.2.2) (q.1) w zz) (fun _ _ _ ⟨zz, a, b⟩ he => ⟨zz, a, b.flz he⟩), Fct.val Flz 4 (.int .i64 0), Fct.obj 5 (fun v w => ∃ g, v = .pointer (some ⟨g, 0, none⟩) ∧ u9.heap.size ≤ g ∧ Has w g 30 ([.slice none 0 0, .slice none 0 0, .int .u64 0, .slice none 0 0])) (fun _ _ _ ⟨g, a, b, c⟩ he => ⟨g, a, b, c.flz he (by decide)⟩)] (fun w' => Below u9.heap.size u9 w') _ 6 2 chkAltf10 (by kernel_rfl) (by kernel_rfl) (by kernel_rfl) (by decide) (Below.refl _ _) ?_ ?_
   ·refine lt_s (lt_s (lt_s (lt_s (lt_s (lt_s (lt_0) ?_) ?_) ?_) ?_) ?_) ?_
    ·intro f w1 hS hf aA hA
     have r13 := pO 13 hA (by kernel_rfl) z13
     exact fV rfl rfl _ (ex_loadR 28 (.tmp 13) rfl ⟨b9_6, 0, none⟩ r13 (fun _ => by kernel_rfl) [.int .u64 (s : Int), v9_4] (by kernel_rfl) ((HX_b9_6.out.keepB hS).part [.int .u64 (s : Int), v9_4] 0 (fun j u hu => by rw [Nat.zero_add]; exact hu))) hS uS
    ·intro f w1 hS hf aA hA
     have r66 := pA 66 0 hA sbAltf10 (by kernel_rfl) zsz rfl (hf 0 (by decide))
     exact fC rfl rfl 9 #[(.tmp 66)] _ rfl #[.agg #[.int .u64 (s : Int), v9_4]] (mp1 r66) (fun w => by kernel_rfl) _ (allQ true 0 (srt q.2.1) (srt q.2.2) s _ (d) q HQQ.out HOK.out rfl rfl rfl w1 HSD.out (HL.out.keep (HB.out.trans (hS.mono HB.out.size)) HSZ.out) HDM.out HDG.out (HU9_4.out.keep hS)) hS (fun _ _ ⟨zz, a, b⟩ => ⟨zz, uS.trans a, b⟩)
    ·intro f w1 hS hf aA hA
     obtain ⟨x67, hx67, hr67⟩ := hf 1 (by decide)
     have e67 := pA 67 1 hA sbAltf10 (by kernel_rfl) zsz rfl hx67
     exact flw_val rfl rfl (.tuple #[.agg #[(fl x67 0), (fl x67 1), .int .u64 (s : Int), (fl x67 2)], .int .i64 0]) (ex_move (.tmp 67) rfl e67) hS (Flz.refl _) ⟨x67, uS, hr67⟩
    ·intro f w1 hS hf aA hA
     obtain ⟨x65, hx65, hr65⟩ := hf 2 (by decide)
     have e65 := pA 65 2 hA sbAltf10 (by kernel_rfl) zsz rfl hx65
     exact flw_val rfl rfl (.agg #[(fl x65 0), (fl x65 1), .int .u64 (s : Int), (fl x65 2)]) (ex_extract (.tmp 65) 0 rfl e65 rfl) hS (Flz.refl _) ⟨x65, uS, hr65⟩
    ·intro f w1 hS hf aA hA
     obtain ⟨x65, hx65, hr65⟩ := hf 2 (by decide)
     have e65 := pA 65 2 hA sbAltf10 (by kernel_rfl) zsz rfl hx65
     exact fV rfl rfl _ (ex_extract (.tmp 65) 1 rfl e65 rfl) hS uS
    ·intro f w1 hS hf aA hA
     exact flw_wp rfl rfl (fun K hK => wp_alloc_row 30 rfl (.agg #[.slice none 0 0, .slice none 0 0, .int .u64 0, .slice none 0 0]) (fun w => by kernel_rfl) (hK _ _ (hS.alloc hS.size _) (Flz.al _ _) ⟨_, uS, hS.size, Has.made' _ _ _ _ rfl⟩))
   intro f x10 hS hf hap
   have h0 : f 0 = .agg #[.int .u64 (s : Int), v9_4] := hf 0 (by decide)
   obtain ⟨v10_1, h1, -⟩ := hf 1 (by decide)
   obtain ⟨v10_2, h2, -⟩ := hf 2 (by decide)
   obtain ⟨v10_3, h3, hu3⟩ := hf 3 (by decide)
   have HU10_3 := Lib.hid hu3
   clear hu3
   have h4 : f 4 = .int .i64 0 := hf 4 (by decide)
   obtain ⟨b10_5, h5, hgb5, hhb5⟩ := hf 5 (by decide)
   clear hf hap
   clear zsz z13
   subst ha0
   simp only [slotsAltf10, putAll, h0, h1, h2, h3, h4, h5, Act.put, List.setIfInBounds_toArray, List.set_cons_zero, List.set_cons_succ]
   clear h0 h1 h2 h3 h4 h5
   refine tl_store rfl (by kernel_rfl) 30 (.tmp 15) (.tmp 68) rfl b10_5 ([(fl v10_3 0), (fl v10_3 1), .int .u64 ((s : Int)), (fl v10_3 2)]) _ rfl rfl _ hhb5 (by kernel_rfl) rfl (rs_ones HU10_3.out.p.oneC HU10_3.out.m.oneC _ HU10_3.out.l.oneC) ?_
   intro u10 hp5 hbl hot
   replace hS := hS.trans (hbl _ hgb5)
   replace HU10_3 := Lib.hid (HU10_3.out.hotr hhb5 hot)
   clear hbl hot hhb5
   try simp only [Act.put]
   refine tl_pure rfl (by kernel_rfl) (.int .i64 0) (ex_assign (.tmp 69) rfl rfl) ?_
   try simp only [Act.put, List.setIfInBounds_toArray, List.set_cons_zero, List.set_cons_succ]
   refine tl_nil ?_
   replace HX_b5_8 := Lib.hid (HX_b5_8.out.keepB hS)
   replace HU5_6 := Lib.hid (HU5_6.out.keep hS)
   replace HX_b6_8 := Lib.hid (HX_b6_8.out.keepB hS)
   replace HU6_6 := Lib.hid (HU6_6.out.keep hS)
   replace HX_b9_6 := Lib.hid (HX_b9_6.out.keepB hS)
   replace HU9_4 := Lib.hid (HU9_4.out.keep hS)
   have HBW := Lib.hid HB.out.size
   replace HB := Lib.hid (HB.out.trans (hS.mono HB.out.size))
   clear hS
   have HGb10_5 : Hid (w.heap.size ≤ b10_5) := Lib.hid (Nat.le_trans HBW.out hgb5)
   have HX_b10_5 : Hid (Has u10 b10_5 30 ([(fl v10_3 0), (fl v10_3 1), .int .u64 ((s : Int)), (fl v10_3 2)])) := Lib.hid hp5
   clear hp5 hgb5
   clear HBW
   go_upto_region 11 with fail
   refine wp_act (fun a0 ha0 => ?_)
   have zsz : a0.tmps.size = 131 := by rw [ha0]; rfl
   have z16 : a0.eval (.tmp 16) = .int .i64 0 := by rw [ha0]; rfl
   refine wrO [] slotsAltf11 waitAltf11 [Fct.val Flz 0 (.int .i64 0), Fct.val Flz 1 (.bool false)] (fun w' => Below u10.heap.size u10 w') _ 2 0 chkAltf11 (by kernel_rfl) (by kernel_rfl) (by kernel_rfl) (by decide) (Below.refl _ _) ?_ ?_
   ·refine lt_s (lt_s (lt_0) ?_) ?_
    ·intro f w1 hS hf aA hA
     have r16 := pO 16 hA (by kernel_rfl) z16
     exact fV rfl rfl _ (ex_move (.tmp 16) rfl r16) hS uS
    ·intro f w1 hS hf aA hA
     have r70 := pA 70 0 hA sbAltf11 (by kernel_rfl) zsz rfl (hf 0 (by decide))
     exact fV rfl rfl _ (Eq.trans (ex_int .neq _ _ (.tmp 70) _ rfl .i64 0 0 r70 rfl (.bool ((0 : Int) != (0 : Int))) (fun _ => rfl)) (by rw [(by decide : ((0 : Int) != (0 : Int)) = false)])) hS uS
   intro f u11 hS hf hap
   have h0 : f 0 = .int .i64 0 := hf 0 (by decide)
   have h1 : f 1 = .bool false := hf 1 (by decide)
   clear hf hap
   clear zsz z16
   subst ha0
   simp only [slotsAltf11, putAll, h0, h1, Act.put, List.setIfInBounds_toArray, List.set_cons_zero, List.set_cons_succ]
   clear h0 h1
   refine tl_nil ?_
   replace HX_b5_8 := Lib.hid (HX_b5_8.out.keepB hS)
   replace HU5_6 := Lib.hid (HU5_6.out.keep hS)
   replace HX_b6_8 := Lib.hid (HX_b6_8.out.keepB hS)
   replace HU6_6 := Lib.hid (HU6_6.out.keep hS)
   replace HX_b9_6 := Lib.hid (HX_b9_6.out.keepB hS)
   replace HU9_4 := Lib.hid (HU9_4.out.keep hS)
   replace HX_b10_5 := Lib.hid (HX_b10_5.out.keepB hS)
   replace HU10_3 := Lib.hid (HU10_3.out.keep hS)
   replace HB := Lib.hid (HB.out.trans (hS.mono HB.out.size))
   clear hS
   go_upto_region 13 with fail
   refine wp_act (fun a0 ha0 => ?_)
   have zsz : a0.tmps.size = 131 := by rw [ha0]; rfl
   have z0 : a0.eval (.tmp 0) = .int .u64 (s : Int) := by rw [ha0]; rfl
   have z1 : a0.eval (.tmp 1) = .int .i64 n := by rw [ha0]; rfl
   have z15 : a0.eval (.tmp 15) = .pointer (some ⟨b10_5, 0, none⟩) := by rw [ha0]; rfl
   refine wrO [] slotsAltt13 waitAltt13 [Fct.val Flz 0 (.int .u64 (s : Int)), Fct.val Flz 1 (.int .i64 n), Fct.val Flz 2 (.pointer (some ⟨b10_5, 0, none⟩)), Fct.val Flz 3 ((fl v10_3 0)), Fct.obj 4 (fun v w => ∃ zz, v = .tuple #[.agg #[.int .u64 (s : Int), zz], .int .i64 0] ∧ Cs w zz (tabP s m (srt q.2.1))) (fun _ _ _ ⟨zz, a, b⟩ he => ⟨zz, a, b.flz he⟩), Fct.obj 5 (fun v w => ∃ zz, v = .tuple #[.agg #[.int .u64 (s : Int), zz], .int .i64 0] ∧ Cs w zz (tabP s m (srt q.2.1))) (fun _ _ _ ⟨zz, a, b⟩ he => ⟨zz, a, b.flz he⟩), Fct.obj 6 (fun v w => ∃ zz, v = .agg #[.int .u64 (s : Int), zz] ∧ Cs w zz (tabP s m (srt q.2.1))) (fun _ _ _ ⟨zz, a, b⟩ he => ⟨zz, a, b.flz he⟩), Fct.val Flz 7 (.int .i64 0), Fct.obj 8 (fun v w => ∃ g, v = .pointer (some ⟨g, 0, none⟩) ∧ u11.heap.size ≤ g ∧ Has w g 28 ([.int .u64 0, .slice none 0 0])) (fun _ _ _ ⟨g, a, b, c⟩ he => ⟨g, a, b, c.flz he (by decide)⟩)] (fun w' => Below u11.heap.size u11 w') _ 9 2 chkAltt13 (by kernel_rfl) (by kernel_rfl) (by kernel_rfl) (by decide) (Below.refl _ _) ?_ ?_
   ·refine lt_s (lt_s (lt_s (lt_s (lt_s (lt_s (lt_s (lt_s (lt_s (lt_0) ?_) ?_) ?_) ?_) ?_) ?_) ?_) ?_) ?_
    ·intro f w1 hS hf aA hA
     have r0 := pO 0 hA (by kernel_rfl) z0
     exact fV rfl rfl _ (ex_move (.tmp 0) rfl r0) hS uS
    ·intro f w1 hS hf aA hA
     have r1 := pO 1 hA (by kernel_rfl) z1
     exact fV rfl rfl _ (ex_move (.tmp 1) rfl r1) hS uS
    ·intro f w1 hS hf aA hA
     have r15 := pO 15 hA (by kernel_rfl) z15
     exact fV rfl rfl _ (fldR0 (.tmp 15) rfl b10_5 r15) hS uS
    ·intro f w1 hS hf aA hA
     have r77 := pA 77 2 hA sbAltt13 (by kernel_rfl) zsz rfl (hf 2 (by decide))
     exact fV rfl rfl _ (ex_load1 24 (.tmp 77) rfl ⟨b10_5, 0, none⟩ r77 (fun _ => by kernel_rfl) ((HX_b10_5.out.keepB hS).cellv rfl)) hS uS
    ·intro f w1 hS hf aA hA
     have r75 := pA 75 0 hA sbAltt13 (by kernel_rfl) zsz rfl (hf 0 (by decide))
     have r76 := pA 76 1 hA sbAltt13 (by kernel_rfl) zsz rfl (hf 1 (by decide))
     have r78 := pA 78 3 hA sbAltt13 (by kernel_rfl) zsz rfl (hf 3 (by decide))
     exact fC rfl rfl 11 #[(.tmp 75), (.tmp 76), (.tmp 78)] _ rfl #[.int .u64 (s : Int), .int .i64 n, (fl v10_3 0)] (mp3 r75 r76 r78) (fun w => by kernel_rfl) _ (ofA_t s n m _ (srt q.2.1) HGD.out HM.out (asc_srt _) w1 HSD.out (HL.out.keep (HB.out.trans (hS.mono HB.out.size)) HSZ.out) HPA.out (OwnU.us (HU10_3.out.p.keep hS))) hS (fun _ _ ⟨zz, a, b⟩ => ⟨zz, uS.trans a, b⟩)
    ·intro f w1 hS hf aA hA
     obtain ⟨x79, hx79, hr79⟩ := hf 4 (by decide)
     have e79 := pA 79 4 hA sbAltt13 (by kernel_rfl) zsz rfl hx79
     exact flw_val rfl rfl (.tuple #[.agg #[.int .u64 (s : Int), x79], .int .i64 0]) (ex_move (.tmp 79) rfl e79) hS (Flz.refl _) ⟨x79, uS, hr79⟩
    ·intro f w1 hS hf aA hA
     obtain ⟨x74, hx74, hr74⟩ := hf 5 (by decide)
     have e74 := pA 74 5 hA sbAltt13 (by kernel_rfl) zsz rfl hx74
     exact flw_val rfl rfl (.agg #[.int .u64 (s : Int), x74]) (ex_extract (.tmp 74) 0 rfl e74 rfl) hS (Flz.refl _) ⟨x74, uS, hr74⟩
    ·intro f w1 hS hf aA hA
     obtain ⟨x74, hx74, hr74⟩ := hf 5 (by decide)
     have e74 := pA 74 5 hA sbAltt13 (by kernel_rfl) zsz rfl hx74
     exact fV rfl rfl _ (ex_extract (.tmp 74) 1 rfl e74 rfl) hS uS
    ·intro f w1 hS hf aA hA
     exact flw_wp rfl rfl (fun K hK => wp_alloc_row 28 rfl (.agg #[.int .u64 0, .slice none 0 0]) (fun w => by kernel_rfl) (hK _ _ (hS.alloc hS.size _) (Flz.al _ _) ⟨_, uS, hS.size, Has.made' _ _ _ _ rfl⟩))
   intro f x13 hS hf hap
   have h0 : f 0 = .int .u64 (s : Int) := hf 0 (by decide)
   have h1 : f 1 = .int .i64 n := hf 1 (by decide)
   have h2 : f 2 = .pointer (some ⟨b10_5, 0, none⟩) := hf 2 (by decide)
   have h3 : f 3 = (fl v10_3 0) := hf 3 (by decide)
   obtain ⟨v13_4, h4, -⟩ := hf 4 (by decide)
   obtain ⟨v13_5, h5, -⟩ := hf 5 (by decide)
   obtain ⟨v13_6, h6, hu6⟩ := hf 6 (by decide)
   have HU13_6 := Lib.hid hu6
   clear hu6
   have h7 : f 7 = .int .i64 0 := hf 7 (by decide)
   obtain ⟨b13_8, h8, hgb8, hhb8⟩ := hf 8 (by decide)
   clear hf hap
   clear zsz z0 z1 z15
   subst ha0
   simp only [slotsAltt13, putAll, h0, h1, h2, h3, h4, h5, h6, h7, h8, Act.put, List.setIfInBounds_toArray, List.set_cons_zero, List.set_cons_succ]
   clear h0 h1 h2 h3 h4 h5 h6 h7 h8
   refine tl_store rfl (by kernel_rfl) 28 (.tmp 17) (.tmp 80) rfl b13_8 ([.int .u64 (s : Int), v13_6]) _ rfl rfl _ hhb8 (by kernel_rfl) rfl (tb_ones _ HU13_6.out.one) ?_
   intro u13 hp8 hbl hot
   replace hS := hS.trans (hbl _ hgb8)
   replace HU13_6 := Lib.hid (HU13_6.out.hotb hhb8 ⟨_, _, _, rfl⟩ (by decide) (hbl 0 (Nat.zero_le _)).size hot)
   clear hbl hot hhb8
   try simp only [Act.put]
   refine tl_pure rfl (by kernel_rfl) (.int .i64 0) (ex_assign (.tmp 81) rfl rfl) ?_
   try simp only [Act.put, List.setIfInBounds_toArray, List.set_cons_zero, List.set_cons_succ]
   refine tl_nil ?_
   replace HX_b5_8 := Lib.hid (HX_b5_8.out.keepB hS)
   replace HU5_6 := Lib.hid (HU5_6.out.keep hS)
   replace HX_b6_8 := Lib.hid (HX_b6_8.out.keepB hS)
   replace HU6_6 := Lib.hid (HU6_6.out.keep hS)
   replace HX_b9_6 := Lib.hid (HX_b9_6.out.keepB hS)
   replace HU9_4 := Lib.hid (HU9_4.out.keep hS)
   replace HX_b10_5 := Lib.hid (HX_b10_5.out.keepB hS)
   replace HU10_3 := Lib.hid (HU10_3.out.keep hS)
   have HBW := Lib.hid HB.out.size
   replace HB := Lib.hid (HB.out.trans (hS.mono HB.out.size))
   clear hS
   have HGb13_8 : Hid (w.heap.size ≤ b13_8) := Lib.hid (Nat.le_trans HBW.out hgb8)
   have HX_b13_8 : Hid (Has u13 b13_8 28 ([.int .u64 (s : Int), v13_6])) := Lib.hid hp8
   clear hp8 hgb8
   clear HBW
   go_upto_region 14 with fail
   refine wp_act (fun a0 ha0 => ?_)
   have zsz : a0.tmps.size = 131 := by rw [ha0]; rfl
   have z0 : a0.eval (.tmp 0) = .int .u64 (s : Int) := by rw [ha0]; rfl
   have z1 : a0.eval (.tmp 1) = .int .i64 n := by rw [ha0]; rfl
   have z15 : a0.eval (.tmp 15) = .pointer (some ⟨b10_5, 0, none⟩) := by rw [ha0]; rfl
   refine wrO [] slotsAltt14 waitAltt14 [Fct.val Flz 0 (.int .u64 (s : Int)), Fct.val Flz 1 (.int .i64 n), Fct.val Flz 2 (.pointer (some ⟨b10_5, 1, none⟩)), Fct.val Flz 3 ((fl v10_3 1)), Fct.obj 4 (fun v w => ∃ zz, v = .tuple #[.agg #[.int .u64 (s : Int), zz], .int .i64 0] ∧ Cs w zz (tabP s m (srt q.2.2))) (fun _ _ _ ⟨zz, a, b⟩ he => ⟨zz, a, b.flz he⟩), Fct.obj 5 (fun v w => ∃ zz, v = .tuple #[.agg #[.int .u64 (s : Int), zz], .int .i64 0] ∧ Cs w zz (tabP s m (srt q.2.2))) (fun _ _ _ ⟨zz, a, b⟩ he => ⟨zz, a, b.flz he⟩), Fct.obj 6 (fun v w => ∃ zz, v = .agg #[.int .u64 (s : Int), zz] ∧ Cs w zz (tabP s m (srt q.2.2))) (fun _ _ _ ⟨zz, a, b⟩ he => ⟨zz, a, b.flz he⟩), Fct.val Flz 7 (.int .i64 0), Fct.obj 8 (fun v w => ∃ g, v = .pointer (some ⟨g, 0, none⟩) ∧ u13.heap.size ≤ g ∧ Has w g 28 ([.int .u64 0, .slice none 0 0])) (fun _ _ _ ⟨g, a, b, c⟩ he => ⟨g, a, b, c.flz he (by decide)⟩)] (fun w' => Below u13.heap.size u13 w') _ 9 2 chkAltt14 (by kernel_rfl) (by kernel_rfl) (by kernel_rfl) (by decide) (Below.refl _ _) ?_ ?_
   ·refine lt_s (lt_s (lt_s (lt_s (lt_s (lt_s (lt_s (lt_s (lt_s (lt_0) ?_) ?_) ?_) ?_) ?_) ?_) ?_) ?_) ?_
    ·intro f w1 hS hf aA hA
     have r0 := pO 0 hA (by kernel_rfl) z0
     exact fV rfl rfl _ (ex_move (.tmp 0) rfl r0) hS uS
    ·intro f w1 hS hf aA hA
     have r1 := pO 1 hA (by kernel_rfl) z1
     exact fV rfl rfl _ (ex_move (.tmp 1) rfl r1) hS uS
    ·intro f w1 hS hf aA hA
     have r15 := pO 15 hA (by kernel_rfl) z15
     exact fV rfl rfl _ (fldR1 (.tmp 15) rfl b10_5 r15) hS uS
    ·intro f w1 hS hf aA hA
     have r85 := pA 85 2 hA sbAltt14 (by kernel_rfl) zsz rfl (hf 2 (by decide))
     exact fV rfl rfl _ (ex_load1 24 (.tmp 85) rfl ⟨b10_5, 1, none⟩ r85 (fun _ => by kernel_rfl) ((HX_b10_5.out.keepB hS).cellv rfl)) hS uS
    ·intro f w1 hS hf aA hA
     have r83 := pA 83 0 hA sbAltt14 (by kernel_rfl) zsz rfl (hf 0 (by decide))
     have r84 := pA 84 1 hA sbAltt14 (by kernel_rfl) zsz rfl (hf 1 (by decide))
     have r86 := pA 86 3 hA sbAltt14 (by kernel_rfl) zsz rfl (hf 3 (by decide))
     exact fC rfl rfl 11 #[(.tmp 83), (.tmp 84), (.tmp 86)] _ rfl #[.int .u64 (s : Int), .int .i64 n, (fl v10_3 1)] (mp3 r83 r84 r86) (fun w => by kernel_rfl) _ (ofA_t s n m _ (srt q.2.2) HGD.out HM.out (asc_srt _) w1 HSD.out (HL.out.keep (HB.out.trans (hS.mono HB.out.size)) HSZ.out) HPB.out (OwnU.us (HU10_3.out.m.keep hS))) hS (fun _ _ ⟨zz, a, b⟩ => ⟨zz, uS.trans a, b⟩)
    ·intro f w1 hS hf aA hA
     obtain ⟨x87, hx87, hr87⟩ := hf 4 (by decide)
     have e87 := pA 87 4 hA sbAltt14 (by kernel_rfl) zsz rfl hx87
     exact flw_val rfl rfl (.tuple #[.agg #[.int .u64 (s : Int), x87], .int .i64 0]) (ex_move (.tmp 87) rfl e87) hS (Flz.refl _) ⟨x87, uS, hr87⟩
    ·intro f w1 hS hf aA hA
     obtain ⟨x82, hx82, hr82⟩ := hf 5 (by decide)
     have e82 := pA 82 5 hA sbAltt14 (by kernel_rfl) zsz rfl hx82
     exact flw_val rfl rfl (.agg #[.int .u64 (s : Int), x82]) (ex_extract (.tmp 82) 0 rfl e82 rfl) hS (Flz.refl _) ⟨x82, uS, hr82⟩
    ·intro f w1 hS hf aA hA
     obtain ⟨x82, hx82, hr82⟩ := hf 5 (by decide)
     have e82 := pA 82 5 hA sbAltt14 (by kernel_rfl) zsz rfl hx82
     exact fV rfl rfl _ (ex_extract (.tmp 82) 1 rfl e82 rfl) hS uS
    ·intro f w1 hS hf aA hA
     exact flw_wp rfl rfl (fun K hK => wp_alloc_row 28 rfl (.agg #[.int .u64 0, .slice none 0 0]) (fun w => by kernel_rfl) (hK _ _ (hS.alloc hS.size _) (Flz.al _ _) ⟨_, uS, hS.size, Has.made' _ _ _ _ rfl⟩))
   intro f x14 hS hf hap
   have h0 : f 0 = .int .u64 (s : Int) := hf 0 (by decide)
   have h1 : f 1 = .int .i64 n := hf 1 (by decide)
   have h2 : f 2 = .pointer (some ⟨b10_5, 1, none⟩) := hf 2 (by decide)
   have h3 : f 3 = (fl v10_3 1) := hf 3 (by decide)
   obtain ⟨v14_4, h4, -⟩ := hf 4 (by decide)
   obtain ⟨v14_5, h5, -⟩ := hf 5 (by decide)
   obtain ⟨v14_6, h6, hu6⟩ := hf 6 (by decide)
   have HU14_6 := Lib.hid hu6
   clear hu6
   have h7 : f 7 = .int .i64 0 := hf 7 (by decide)
   obtain ⟨b14_8, h8, hgb8, hhb8⟩ := hf 8 (by decide)
   clear hf hap
   clear zsz z0 z1 z15
   subst ha0
   simp only [slotsAltt14, putAll, h0, h1, h2, h3, h4, h5, h6, h7, h8, Act.put, List.setIfInBounds_toArray, List.set_cons_zero, List.set_cons_succ]
   clear h0 h1 h2 h3 h4 h5 h6 h7 h8
   refine tl_store rfl (by kernel_rfl) 28 (.tmp 19) (.tmp 88) rfl b14_8 ([.int .u64 (s : Int), v14_6]) _ rfl rfl _ hhb8 (by kernel_rfl) rfl (tb_ones _ HU14_6.out.one) ?_
   intro u14 hp8 hbl hot
   replace hS := hS.trans (hbl _ hgb8)
   replace HU14_6 := Lib.hid (HU14_6.out.hotb hhb8 ⟨_, _, _, rfl⟩ (by decide) (hbl 0 (Nat.zero_le _)).size hot)
   clear hbl hot hhb8
   try simp only [Act.put]
   refine tl_pure rfl (by kernel_rfl) (.int .i64 0) (ex_assign (.tmp 89) rfl rfl) ?_
   try simp only [Act.put, List.setIfInBounds_toArray, List.set_cons_zero, List.set_cons_succ]
   refine tl_nil ?_
   replace HX_b5_8 := Lib.hid (HX_b5_8.out.keepB hS)
   replace HU5_6 := Lib.hid (HU5_6.out.keep hS)
   replace HX_b6_8 := Lib.hid (HX_b6_8.out.keepB hS)
   replace HU6_6 := Lib.hid (HU6_6.out.keep hS)
   replace HX_b9_6 := Lib.hid (HX_b9_6.out.keepB hS)
   replace HU9_4 := Lib.hid (HU9_4.out.keep hS)
   replace HX_b10_5 := Lib.hid (HX_b10_5.out.keepB hS)
   replace HU10_3 := Lib.hid (HU10_3.out.keep hS)
   replace HX_b13_8 := Lib.hid (HX_b13_8.out.keepB hS)
   replace HU13_6 := Lib.hid (HU13_6.out.keep hS)
   have HBW := Lib.hid HB.out.size
   replace HB := Lib.hid (HB.out.trans (hS.mono HB.out.size))
   clear hS
   have HGb14_8 : Hid (w.heap.size ≤ b14_8) := Lib.hid (Nat.le_trans HBW.out hgb8)
   have HX_b14_8 : Hid (Has u14 b14_8 28 ([.int .u64 (s : Int), v14_6])) := Lib.hid hp8
   clear hp8 hgb8
   clear HBW
   go_upto_region 15 with fail
   refine wp_act (fun a0 ha0 => ?_)
   have zsz : a0.tmps.size = 131 := by rw [ha0]; rfl
   have z17 : a0.eval (.tmp 17) = .pointer (some ⟨b13_8, 0, none⟩) := by rw [ha0]; rfl
   have z19 : a0.eval (.tmp 19) = .pointer (some ⟨b14_8, 0, none⟩) := by rw [ha0]; rfl
   refine wrO [] slotsAltt15 waitAltt15 [Fct.val Flz 0 (.agg #[.int .u64 (s : Int), v13_6]), Fct.val Flz 1 (.agg #[.int .u64 (s : Int), v14_6]), Fct.obj 2 (fun v w => ∃ zz, v = .tuple #[.agg #[.int .u64 (s : Int), zz], .int .i64 0] ∧ Cs w zz (List.zipWith minusC (tabP s m (srt q.2.1)) (tabP s m (srt q.2.2)))) (fun _ _ _ ⟨zz, a, b⟩ he => ⟨zz, a, b.flz he⟩), Fct.obj 3 (fun v w => ∃ zz, v = .tuple #[.agg #[.int .u64 (s : Int), zz], .int .i64 0] ∧ Cs w zz (List.zipWith minusC (tabP s m (srt q.2.1)) (tabP s m (srt q.2.2)))) (fun _ _ _ ⟨zz, a, b⟩ he => ⟨zz, a, b.flz he⟩), Fct.obj 4 (fun v w => ∃ zz, v = .agg #[.int .u64 (s : Int), zz] ∧ Cs w zz (List.zipWith minusC (tabP s m (srt q.2.1)) (tabP s m (srt q.2.2)))) (fun _ _ _ ⟨zz, a, b⟩ he => ⟨zz, a, b.flz he⟩), Fct.val Flz 5 (.int .i64 0), Fct.obj 6 (fun v w => ∃ g, v = .pointer (some ⟨g, 0, none⟩) ∧ u14.heap.size ≤ g ∧ Has w g 28 ([.int .u64 0, .slice none 0 0])) (fun _ _ _ ⟨g, a, b, c⟩ he => ⟨g, a, b, c.flz he (by decide)⟩)] (fun w' => Below u14.heap.size u14 w') _ 7 2 chkAltt15 (by kernel_rfl) (by kernel_rfl) (by kernel_rfl) (by decide) (Below.refl _ _) ?_ ?_
   ·refine lt_s (lt_s (lt_s (lt_s (lt_s (lt_s (lt_s (lt_0) ?_) ?_) ?_) ?_) ?_) ?_) ?_
    ·intro f w1 hS hf aA hA
     have r17 := pO 17 hA (by kernel_rfl) z17
     exact fV rfl rfl _ (ex_loadR 28 (.tmp 17) rfl ⟨b13_8, 0, none⟩ r17 (fun _ => by kernel_rfl) [.int .u64 (s : Int), v13_6] (by kernel_rfl) ((HX_b13_8.out.keepB hS).part [.int .u64 (s : Int), v13_6] 0 (fun j u hu => by rw [Nat.zero_add]; exact hu))) hS uS
    ·intro f w1 hS hf aA hA
     have r19 := pO 19 hA (by kernel_rfl) z19
     exact fV rfl rfl _ (ex_loadR 28 (.tmp 19) rfl ⟨b14_8, 0, none⟩ r19 (fun _ => by kernel_rfl) [.int .u64 (s : Int), v14_6] (by kernel_rfl) ((HX_b14_8.out.keepB hS).part [.int .u64 (s : Int), v14_6] 0 (fun j u hu => by rw [Nat.zero_add]; exact hu))) hS uS
    ·intro f w1 hS hf aA hA
     have r91 := pA 91 0 hA sbAltt15 (by kernel_rfl) zsz rfl (hf 0 (by decide))
     have r92 := pA 92 1 hA sbAltt15 (by kernel_rfl) zsz rfl (hf 1 (by decide))
     exact fC rfl rfl 22 #[(.tmp 91), (.tmp 92)] _ rfl #[.agg #[.int .u64 (s : Int), v13_6], .agg #[.int .u64 (s : Int), v14_6]] (mp2 r91 r92) (fun w => by kernel_rfl) _ (minusS_t s _ _ _ _ (tabP_good HGM.out) (by rw [tabP_len, tabP_len]) w1 (tabP_small 1000000 (Nat.le_trans HM4.out (by decide))) (HU13_6.out.keep hS) (HU14_6.out.keep hS)) hS (fun _ _ ⟨zz, a, b⟩ => ⟨zz, uS.trans a, b⟩)
    ·intro f w1 hS hf aA hA
     obtain ⟨x93, hx93, hr93⟩ := hf 2 (by decide)
     have e93 := pA 93 2 hA sbAltt15 (by kernel_rfl) zsz rfl hx93
     exact flw_val rfl rfl (.tuple #[.agg #[.int .u64 (s : Int), x93], .int .i64 0]) (ex_move (.tmp 93) rfl e93) hS (Flz.refl _) ⟨x93, uS, hr93⟩
    ·intro f w1 hS hf aA hA
     obtain ⟨x90, hx90, hr90⟩ := hf 3 (by decide)
     have e90 := pA 90 3 hA sbAltt15 (by kernel_rfl) zsz rfl hx90
     exact flw_val rfl rfl (.agg #[.int .u64 (s : Int), x90]) (ex_extract (.tmp 90) 0 rfl e90 rfl) hS (Flz.refl _) ⟨x90, uS, hr90⟩
    ·intro f w1 hS hf aA hA
     obtain ⟨x90, hx90, hr90⟩ := hf 3 (by decide)
     have e90 := pA 90 3 hA sbAltt15 (by kernel_rfl) zsz rfl hx90
     exact fV rfl rfl _ (ex_extract (.tmp 90) 1 rfl e90 rfl) hS uS
    ·intro f w1 hS hf aA hA
     exact flw_wp rfl rfl (fun K hK => wp_alloc_row 28 rfl (.agg #[.int .u64 0, .slice none 0 0]) (fun w => by kernel_rfl) (hK _ _ (hS.alloc hS.size _) (Flz.al _ _) ⟨_, uS, hS.size, Has.made' _ _ _ _ rfl⟩))
   intro f x15 hS hf hap
   have h0 : f 0 = .agg #[.int .u64 (s : Int), v13_6] := hf 0 (by decide)
   have h1 : f 1 = .agg #[.int .u64 (s : Int), v14_6] := hf 1 (by decide)
   obtain ⟨v15_2, h2, -⟩ := hf 2 (by decide)
   obtain ⟨v15_3, h3, -⟩ := hf 3 (by decide)
   obtain ⟨v15_4, h4, hu4⟩ := hf 4 (by decide)
   have HU15_4 := Lib.hid hu4
   clear hu4
   have h5 : f 5 = .int .i64 0 := hf 5 (by decide)
   obtain ⟨b15_6, h6, hgb6, hhb6⟩ := hf 6 (by decide)
   clear hf hap
   clear zsz z17 z19
   subst ha0
   simp only [slotsAltt15, putAll, h0, h1, h2, h3, h4, h5, h6, Act.put, List.setIfInBounds_toArray, List.set_cons_zero, List.set_cons_succ]
   clear h0 h1 h2 h3 h4 h5 h6
   refine tl_store rfl (by kernel_rfl) 28 (.tmp 21) (.tmp 94) rfl b15_6 ([.int .u64 (s : Int), v15_4]) _ rfl rfl _ hhb6 (by kernel_rfl) rfl (tb_ones _ HU15_4.out.one) ?_
   intro u15 hp6 hbl hot
   replace hS := hS.trans (hbl _ hgb6)
   replace HU15_4 := Lib.hid (HU15_4.out.hotb hhb6 ⟨_, _, _, rfl⟩ (by decide) (hbl 0 (Nat.zero_le _)).size hot)
   clear hbl hot hhb6
   try simp only [Act.put]
   refine tl_pure rfl (by kernel_rfl) (.int .i64 0) (ex_assign (.tmp 95) rfl rfl) ?_
   try simp only [Act.put, List.setIfInBounds_toArray, List.set_cons_zero, List.set_cons_succ]
   refine tl_nil ?_
   replace HX_b5_8 := Lib.hid (HX_b5_8.out.keepB hS)
   replace HU5_6 := Lib.hid (HU5_6.out.keep hS)
   replace HX_b6_8 := Lib.hid (HX_b6_8.out.keepB hS)
   replace HU6_6 := Lib.hid (HU6_6.out.keep hS)
   replace HX_b9_6 := Lib.hid (HX_b9_6.out.keepB hS)
   replace HU9_4 := Lib.hid (HU9_4.out.keep hS)
   replace HX_b10_5 := Lib.hid (HX_b10_5.out.keepB hS)
   replace HU10_3 := Lib.hid (HU10_3.out.keep hS)
   replace HX_b13_8 := Lib.hid (HX_b13_8.out.keepB hS)
   replace HU13_6 := Lib.hid (HU13_6.out.keep hS)
   replace HX_b14_8 := Lib.hid (HX_b14_8.out.keepB hS)
   replace HU14_6 := Lib.hid (HU14_6.out.keep hS)
   have HBW := Lib.hid HB.out.size
   replace HB := Lib.hid (HB.out.trans (hS.mono HB.out.size))
   clear hS
   have HGb15_6 : Hid (w.heap.size ≤ b15_6) := Lib.hid (Nat.le_trans HBW.out hgb6)
   have HX_b15_6 : Hid (Has u15 b15_6 28 ([.int .u64 (s : Int), v15_4])) := Lib.hid hp6
   clear hp6 hgb6
   clear HBW
   go_upto_region 16 with fail
   have HST : Hid (Below u15.heap.size u15 u15.drew) := Lib.hid (Below.refl _ _).drew
   replace HX_b5_8 := Lib.hid (HX_b5_8.out.keepB HST.out)
   replace HU5_6 := Lib.hid (HU5_6.out.keep HST.out)
   replace HX_b6_8 := Lib.hid (HX_b6_8.out.keepB HST.out)
   replace HU6_6 := Lib.hid (HU6_6.out.keep HST.out)
   replace HX_b9_6 := Lib.hid (HX_b9_6.out.keepB HST.out)
   replace HU9_4 := Lib.hid (HU9_4.out.keep HST.out)
   replace HX_b10_5 := Lib.hid (HX_b10_5.out.keepB HST.out)
   replace HU10_3 := Lib.hid (HU10_3.out.keep HST.out)
   replace HX_b13_8 := Lib.hid (HX_b13_8.out.keepB HST.out)
   replace HU13_6 := Lib.hid (HU13_6.out.keep HST.out)
   replace HX_b14_8 := Lib.hid (HX_b14_8.out.keepB HST.out)
   replace HU14_6 := Lib.hid (HU14_6.out.keep HST.out)
   replace HX_b15_6 := Lib.hid (HX_b15_6.out.keepB HST.out)
   replace HU15_4 := Lib.hid (HU15_4.out.keep HST.out)
   replace HB := Lib.hid (HB.out.trans (HST.out.mono HB.out.size))
   clear HST
   refine wp_act (fun a0 ha0 => ?_)
   have zsz : a0.tmps.size = 131 := by rw [ha0]; rfl
   have z22 : a0.eval (.tmp 22) = .int .i64 0 := by rw [ha0]; rfl
   have z21 : a0.eval (.tmp 21) = .pointer (some ⟨b15_6, 0, none⟩) := by rw [ha0]; rfl
   have z13 : a0.eval (.tmp 13) = .pointer (some ⟨b9_6, 0, none⟩) := by rw [ha0]; rfl
   have z15 : a0.eval (.tmp 15) = .pointer (some ⟨b10_5, 0, none⟩) := by rw [ha0]; rfl
   refine wrD [] slotsAltt16 waitAltt16 [Fct.val Flz 0 (.int .i64 0), Fct.val Flz 1 (.bool true), Fct.val Flz 2 (.bool true), Fct.val Flz 3 (.agg #[.int .u64 (s : Int), v15_4]), Fct.obj 4 (fun v w => ∃ zz, v = .agg #[.int .u64 (s : Int), zz] ∧ Cs w zz (List.zipWith minusC (tabP s m (srt q.2.1)) (tabP s m (srt q.2.2)))) (fun _ _ _ ⟨zz, a, b⟩ he => ⟨zz, a, b.flz he⟩), Fct.val Flz 5 (.agg #[.int .u64 (s : Int), v9_4]), Fct.obj 6 (fun v w => ∃ zz, v = .agg #[.int .u64 (s : Int), zz] ∧ Cs w zz (d)) (fun _ _ _ ⟨zz, a, b⟩ he => ⟨zz, a, b.flz he⟩), Fct.val Flz 7 (.bool true), Fct.val Flz 8 (.bool true), Fct.val Flz 9 (.bool true), Fct.val Flz 10 (.pointer (some ⟨b10_5, 2, none⟩)), Fct.val Flz 11 (.agg #[.int .u64 (s : Int), (fl v10_3 2)]), Fct.val Flz 12 (.bool true), Fct.val Flz 13 (.bool true), Fct.val Flz 14 (.bool true), Fct.val Flz 15 (.pointer (some ⟨b10_5, 0, none⟩)), Fct.val Flz 16 ((fl v10_3 0)), Fct.val Flz 17 (.pointer (some ⟨b10_5, 1, none⟩)), Fct.val Flz 18 ((fl v10_3 1)), Fct.obj 19 (fun v w => Us w v (botU (srt q.2.1) (srt q.2.2))) (fun _ _ _ h he => h.flz he), Fct.val Flz 20 (.int .i64 0), Fct.val Flz 21 (.bool true), Fct.val Flz 22 (.bool true), Fct.val Flz 23 (.bool true), Fct.val Flz 24 (.agg #[.int .u64 (s : Int), v9_4]), Fct.val Flz 25 (.int .i64 (cntT (d))), Fct.val Flz 26 (.pointer (some ⟨b10_5, 0, none⟩)), Fct.val Flz 27 ((fl v10_3 0)), Fct.val Flz 28 (.int .i64 (((srt q.2.1).length : Int))), Fct.val Flz 29 (.pointer (some ⟨b10_5, 1, none⟩)), Fct.val Flz 30 ((fl v10_3 1)), Fct.val Flz 31 (.int .i64 (((srt q.2.2).length : Int))), Fct.val Flz 32 (.int .i64 (IntKind.i64.wrap ((((srt q.2.1).length : Int)) - (((srt q.2.2).length : Int))))), Fct.val Flz 33 (.bool true), Fct.val Flz 34 (.bool true), Fct.val Flz 35 (.bool true)] (fun w' => Below u15.drew.heap.size u15.drew w') _ 36 0 chkAltt16 (by kernel_rfl) (by kernel_rfl) (by kernel_rfl) (by kernel_rfl) (by decide) (Below.refl _ _) ?_ ?_
   ·refine lt_s (lt_s (lt_s (lt_s (lt_s (lt_s (lt_s (lt_s (lt_s (lt_s (lt_s (lt_s (lt_s (lt_s (lt_s (lt_s (lt_s (lt_s (lt_s (lt_s (lt_s (lt_s (lt_s (lt_s (lt_s (lt_s (lt_s (lt_s (lt_s (lt_s (lt_s (lt_s (lt_s (lt_s (lt_s (lt_s (lt_0) ?_) ?_) ?_) ?_) ?_) ?_) ?_) ?_) ?_) ?_) ?_) ?_) ?_) ?_) ?_) ?_) ?_) ?_) ?_) ?_) ?_) ?_) ?_) ?_) ?_) ?_) ?_) ?_) ?_) ?_) ?_) ?_) ?_) ?_) ?_) ?_
    ·intro f w1 hS hf aA hA
     have r22 := pO 22 hA (by kernel_rfl) z22
     exact fV rfl rfl _ (ex_move (.tmp 22) rfl r22) hS uS
    ·intro f w1 hS hf aA hA
     have r96 := pA 96 0 hA sbAltt16 (by kernel_rfl) zsz rfl (hf 0 (by decide))
     exact fV rfl rfl _ (Eq.trans (ex_int .eql _ _ (.tmp 96) _ rfl .i64 0 0 r96 rfl (.bool ((0 : Int) == (0 : Int))) (fun _ => rfl)) (by rw [(by decide : ((0 : Int) == (0 : Int)) = true)])) hS uS
    ·intro f w1 hS hf aA hA
     have r97 := pA 97 1 hA sbAltt16 (by kernel_rfl) zsz rfl (hf 1 (by decide))
     exact fV rfl rfl _ (ex_move (.tmp 97) rfl r97) hS uS
    ·intro f w1 hS hf aA hA
     have t98 := pG 98 2 hA sbAltt16 (by kernel_rfl) zsz rfl (hf 2 (by decide))
     have r21 := pO 21 hA (by kernel_rfl) z21
     exact fV rfl ((wanted_of rfl 98 rfl t98).trans rfl) _ (ex_loadR 28 (.tmp 21) rfl ⟨b15_6, 0, none⟩ r21 (fun _ => by kernel_rfl) [.int .u64 (s : Int), v15_4] (by kernel_rfl) ((HX_b15_6.out.keepB hS).part [.int .u64 (s : Int), v15_4] 0 (fun j u hu => by rw [Nat.zero_add]; exact hu))) hS uS
    ·intro f w1 hS hf aA hA
     have t98 := pG 98 2 hA sbAltt16 (by kernel_rfl) zsz rfl (hf 2 (by decide))
     have r99 := pA 99 3 hA sbAltt16 (by kernel_rfl) zsz rfl (hf 3 (by decide))
     exact fC rfl ((wanted_of rfl 98 rfl t98).trans rfl) 18 #[(.tmp 99)] _ rfl #[.agg #[.int .u64 (s : Int), v15_4]] (mp1 r99) (fun w => by kernel_rfl) _ (tableOf_any s _ _ w1 HZM5.out (HU15_4.out.keep hS)) hS (fun _ _ ⟨zz, a, b⟩ => ⟨zz, uS.trans a, b⟩)
    ·intro f w1 hS hf aA hA
     have t98 := pG 98 2 hA sbAltt16 (by kernel_rfl) zsz rfl (hf 2 (by decide))
     have r13 := pO 13 hA (by kernel_rfl) z13
     exact fV rfl ((wanted_of rfl 98 rfl t98).trans rfl) _ (ex_loadR 28 (.tmp 13) rfl ⟨b9_6, 0, none⟩ r13 (fun _ => by kernel_rfl) [.int .u64 (s : Int), v9_4] (by kernel_rfl) ((HX_b9_6.out.keepB hS).part [.int .u64 (s : Int), v9_4] 0 (fun j u hu => by rw [Nat.zero_add]; exact hu))) hS uS
    ·intro f w1 hS hf aA hA
     have t98 := pG 98 2 hA sbAltt16 (by kernel_rfl) zsz rfl (hf 2 (by decide))
     have r101 := pA 101 5 hA sbAltt16 (by kernel_rfl) zsz rfl (hf 5 (by decide))
     exact fC rfl ((wanted_of rfl 98 rfl t98).trans rfl) 18 #[(.tmp 101)] _ rfl #[.agg #[.int .u64 (s : Int), v9_4]] (mp1 r101) (fun w => by kernel_rfl) _ (tableOf_any s _ _ w1 HDM5.out (HU9_4.out.keep hS)) hS (fun _ _ ⟨zz, a, b⟩ => ⟨zz, uS.trans a, b⟩)
    ·intro f w1 hS hf aA hA
     have t98 := pG 98 2 hA sbAltt16 (by kernel_rfl) zsz rfl (hf 2 (by decide))
     obtain ⟨x100, hx100, hr100⟩ := hf 4 (by decide)
     have e100 := pA 100 4 hA sbAltt16 (by kernel_rfl) zsz rfl hx100
     obtain ⟨x102, hx102, hr102⟩ := hf 6 (by decide)
     have e102 := pA 102 6 hA sbAltt16 (by kernel_rfl) zsz rfl hx102
     exact fC rfl ((wanted_of rfl 98 rfl t98).trans rfl) 17 #[(.tmp 100), (.tmp 102)] _ rfl #[.agg #[.int .u64 (s : Int), x100], .agg #[.int .u64 (s : Int), x102]] (mp2 e100 e102) (fun w => by kernel_rfl) _ (sameT_eq s _ (List.zipWith minusC (tabP s m (srt q.2.1)) (tabP s m (srt q.2.2))) _ (d) HZD.out w1 HZM5.out hr100 hr102) hS (fun _ _ h => uS.trans h)
    ·intro f w1 hS hf aA hA
     have r98 := pA 98 2 hA sbAltt16 (by kernel_rfl) zsz rfl (hf 2 (by decide))
     have r103 := pA 103 7 hA sbAltt16 (by kernel_rfl) zsz rfl (hf 7 (by decide))
     exact fV rfl rfl (.bool true) (ex_pick (.tmp 98) (.tmp 103) _ rfl true r98 ((if_pos rfl).trans r103)) hS uS
    ·intro f w1 hS hf aA hA
     have r104 := pA 104 8 hA sbAltt16 (by kernel_rfl) zsz rfl (hf 8 (by decide))
     exact fV rfl rfl _ (ex_move (.tmp 104) rfl r104) hS uS
    ·intro f w1 hS hf aA hA
     have t105 := pG 105 9 hA sbAltt16 (by kernel_rfl) zsz rfl (hf 9 (by decide))
     have r15 := pO 15 hA (by kernel_rfl) z15
     exact fV rfl ((wanted_of rfl 105 rfl t105).trans rfl) _ (fldR2 (.tmp 15) rfl b10_5 r15) hS uS
    ·intro f w1 hS hf aA hA
     have t105 := pG 105 9 hA sbAltt16 (by kernel_rfl) zsz rfl (hf 9 (by decide))
     have r106 := pA 106 10 hA sbAltt16 (by kernel_rfl) zsz rfl (hf 10 (by decide))
     exact fV rfl ((wanted_of rfl 105 rfl t105).trans rfl) _ (ex_loadR 28 (.tmp 106) rfl ⟨b10_5, 2, none⟩ r106 (fun _ => by kernel_rfl) [.int .u64 (s : Int), (fl v10_3 2)] (by kernel_rfl) ((HX_b10_5.out.keepB hS).part [.int .u64 (s : Int), (fl v10_3 2)] 2 (fun j u hu => rs_two j u hu))) hS uS
    ·intro f w1 hS hf aA hA
     have t105 := pG 105 9 hA sbAltt16 (by kernel_rfl) zsz rfl (hf 9 (by decide))
     have r107 := pA 107 11 hA sbAltt16 (by kernel_rfl) zsz rfl (hf 11 (by decide))
     exact fC rfl ((wanted_of rfl 105 rfl t105).trans rfl) 16 #[(.tmp 107)] _ rfl #[.agg #[.int .u64 (s : Int), (fl v10_3 2)]] (mp1 r107) (fun w => by kernel_rfl) _ (as_any (zeroT_any _ _ _ w1 HQM.out (HU10_3.out.l.keep hS).cs) (congrArg Value.bool HQZ.out)) hS (fun _ _ h => uS.trans h)
    ·intro f w1 hS hf aA hA
     have r105 := pA 105 9 hA sbAltt16 (by kernel_rfl) zsz rfl (hf 9 (by decide))
     have r108 := pA 108 12 hA sbAltt16 (by kernel_rfl) zsz rfl (hf 12 (by decide))
     exact fV rfl rfl (.bool true) (ex_pick (.tmp 105) (.tmp 108) _ rfl true r105 ((if_pos rfl).trans r108)) hS uS
    ·intro f w1 hS hf aA hA
     have r109 := pA 109 13 hA sbAltt16 (by kernel_rfl) zsz rfl (hf 13 (by decide))
     exact fV rfl rfl _ (ex_move (.tmp 109) rfl r109) hS uS
    ·intro f w1 hS hf aA hA
     have t110 := pG 110 14 hA sbAltt16 (by kernel_rfl) zsz rfl (hf 14 (by decide))
     have r15 := pO 15 hA (by kernel_rfl) z15
     exact fV rfl ((wanted_of rfl 110 rfl t110).trans rfl) _ (fldR0 (.tmp 15) rfl b10_5 r15) hS uS
    ·intro f w1 hS hf aA hA
     have t110 := pG 110 14 hA sbAltt16 (by kernel_rfl) zsz rfl (hf 14 (by decide))
     have r111 := pA 111 15 hA sbAltt16 (by kernel_rfl) zsz rfl (hf 15 (by decide))
     exact fV rfl ((wanted_of rfl 110 rfl t110).trans rfl) _ (ex_load1 24 (.tmp 111) rfl ⟨b10_5, 0, none⟩ r111 (fun _ => by kernel_rfl) ((HX_b10_5.out.keepB hS).cellv rfl)) hS uS
    ·intro f w1 hS hf aA hA
     have t110 := pG 110 14 hA sbAltt16 (by kernel_rfl) zsz rfl (hf 14 (by decide))
     have r15 := pO 15 hA (by kernel_rfl) z15
     exact fV rfl ((wanted_of rfl 110 rfl t110).trans rfl) _ (fldR1 (.tmp 15) rfl b10_5 r15) hS uS
    ·intro f w1 hS hf aA hA
     have t110 := pG 110 14 hA sbAltt16 (by kernel_rfl) zsz rfl (hf 14 (by decide))
     have r113 := pA 113 17 hA sbAltt16 (by kernel_rfl) zsz rfl (hf 17 (by decide))
     exact fV rfl ((wanted_of rfl 110 rfl t110).trans rfl) _ (ex_load1 24 (.tmp 113) rfl ⟨b10_5, 1, none⟩ r113 (fun _ => by kernel_rfl) ((HX_b10_5.out.keepB hS).cellv rfl)) hS uS
    ·intro f w1 hS hf aA hA
     have t110 := pG 110 14 hA sbAltt16 (by kernel_rfl) zsz rfl (hf 14 (by decide))
     have r112 := pA 112 16 hA sbAltt16 (by kernel_rfl) zsz rfl (hf 16 (by decide))
     have r114 := pA 114 18 hA sbAltt16 (by kernel_rfl) zsz rfl (hf 18 (by decide))
     exact flw_call rfl ((wanted_of rfl 110 rfl t110).trans rfl) 21 #[(.tmp 112), (.tmp 114)] _ rfl #[(fl v10_3 0), (fl v10_3 1)] (mp2 r112 r114) (fun w => by kernel_rfl) (fun v w' => Us w' v (botU (srt q.2.1) (srt q.2.2))) (us_both (OwnU.us (HU10_3.out.p.keep hS)) (OwnU.us (HU10_3.out.m.keep hS)) HPA.out HPB.out) (fun v w' hr hb => ⟨hS.trans (hb.mono hS.size), Flz.of hb, (show Us w' (updF f 19 v 19) (botU (srt q.2.1) (srt q.2.2)) by rw [updF_self]; exact hr)⟩)
    ·intro f w1 hS hf aA hA
     have t110 := pG 110 14 hA sbAltt16 (by kernel_rfl) zsz rfl (hf 14 (by decide))
     have hu19 : Us w1 (f 19) (botU (srt q.2.1) (srt q.2.2)) := (hf 19 (by decide))
     have e115 := pA 115 19 hA sbAltt16 (by kernel_rfl) zsz rfl rfl
     obtain ⟨q9, c9, hv9, _⟩ := hu19
     exact fV rfl ((wanted_of rfl 110 rfl t110).trans rfl) _ (Eq.trans (ex_len 24 42 (.tmp 115) rfl (by kernel_rfl) q9 (botU (srt q.2.1) (srt q.2.2)).length c9 (e115.trans hv9)) (by rw [show (((botU (srt q.2.1) (srt q.2.2)).length : Nat) : Int) = 0 from HB1.out])) hS uS
    ·intro f w1 hS hf aA hA
     have t110 := pG 110 14 hA sbAltt16 (by kernel_rfl) zsz rfl (hf 14 (by decide))
     have r116 := pA 116 20 hA sbAltt16 (by kernel_rfl) zsz rfl (hf 20 (by decide))
     exact fV rfl ((wanted_of rfl 110 rfl t110).trans rfl) _ (Eq.trans (ex_int .eql _ _ (.tmp 116) _ rfl .i64 0 0 r116 rfl (.bool ((0 : Int) == (0 : Int))) (fun _ => rfl)) (by rw [(by decide : ((0 : Int) == (0 : Int)) = true)])) hS uS
    ·intro f w1 hS hf aA hA
     have r110 := pA 110 14 hA sbAltt16 (by kernel_rfl) zsz rfl (hf 14 (by decide))
     have r117 := pA 117 21 hA sbAltt16 (by kernel_rfl) zsz rfl (hf 21 (by decide))
     exact fV rfl rfl (.bool true) (ex_pick (.tmp 110) (.tmp 117) _ rfl true r110 ((if_pos rfl).trans r117)) hS uS
    ·intro f w1 hS hf aA hA
     have r118 := pA 118 22 hA sbAltt16 (by kernel_rfl) zsz rfl (hf 22 (by decide))
     exact fV rfl rfl _ (ex_move (.tmp 118) rfl r118) hS uS
    ·intro f w1 hS hf aA hA
     have t119 := pG 119 23 hA sbAltt16 (by kernel_rfl) zsz rfl (hf 23 (by decide))
     have r13 := pO 13 hA (by kernel_rfl) z13
     exact fV rfl ((wanted_of rfl 119 rfl t119).trans rfl) _ (ex_loadR 28 (.tmp 13) rfl ⟨b9_6, 0, none⟩ r13 (fun _ => by kernel_rfl) [.int .u64 (s : Int), v9_4] (by kernel_rfl) ((HX_b9_6.out.keepB hS).part [.int .u64 (s : Int), v9_4] 0 (fun j u hu => by rw [Nat.zero_add]; exact hu))) hS uS
    ·intro f w1 hS hf aA hA
     have t119 := pG 119 23 hA sbAltt16 (by kernel_rfl) zsz rfl (hf 23 (by decide))
     have r120 := pA 120 24 hA sbAltt16 (by kernel_rfl) zsz rfl (hf 24 (by decide))
     exact fC rfl ((wanted_of rfl 119 rfl t119).trans rfl) 23 #[(.tmp 120)] _ rfl #[.agg #[.int .u64 (s : Int), v9_4]] (mp1 r120) (fun w => by kernel_rfl) _ (countT_any _ _ _ w1 HDM.out (HU9_4.out.keep hS)) hS (fun _ _ h => uS.trans h)
    ·intro f w1 hS hf aA hA
     have t119 := pG 119 23 hA sbAltt16 (by kernel_rfl) zsz rfl (hf 23 (by decide))
     have r15 := pO 15 hA (by kernel_rfl) z15
     exact fV rfl ((wanted_of rfl 119 rfl t119).trans rfl) _ (fldR0 (.tmp 15) rfl b10_5 r15) hS uS
    ·intro f w1 hS hf aA hA
     have t119 := pG 119 23 hA sbAltt16 (by kernel_rfl) zsz rfl (hf 23 (by decide))
     have r122 := pA 122 26 hA sbAltt16 (by kernel_rfl) zsz rfl (hf 26 (by decide))
     exact fV rfl ((wanted_of rfl 119 rfl t119).trans rfl) _ (ex_load1 24 (.tmp 122) rfl ⟨b10_5, 0, none⟩ r122 (fun _ => by kernel_rfl) ((HX_b10_5.out.keepB hS).cellv rfl)) hS uS
    ·intro f w1 hS hf aA hA
     have t119 := pG 119 23 hA sbAltt16 (by kernel_rfl) zsz rfl (hf 23 (by decide))
     have r123 := pA 123 27 hA sbAltt16 (by kernel_rfl) zsz rfl (hf 27 (by decide))
     obtain ⟨q9, c9, hv9, _⟩ := (HU10_3.out.p.keep hS).cs
     exact fV rfl ((wanted_of rfl 119 rfl t119).trans rfl) _ (ex_len 24 42 (.tmp 123) rfl (by kernel_rfl) q9 (srt q.2.1).length c9 (r123.trans hv9)) hS uS
    ·intro f w1 hS hf aA hA
     have t119 := pG 119 23 hA sbAltt16 (by kernel_rfl) zsz rfl (hf 23 (by decide))
     have r15 := pO 15 hA (by kernel_rfl) z15
     exact fV rfl ((wanted_of rfl 119 rfl t119).trans rfl) _ (fldR1 (.tmp 15) rfl b10_5 r15) hS uS
    ·intro f w1 hS hf aA hA
     have t119 := pG 119 23 hA sbAltt16 (by kernel_rfl) zsz rfl (hf 23 (by decide))
     have r125 := pA 125 29 hA sbAltt16 (by kernel_rfl) zsz rfl (hf 29 (by decide))
     exact fV rfl ((wanted_of rfl 119 rfl t119).trans rfl) _ (ex_load1 24 (.tmp 125) rfl ⟨b10_5, 1, none⟩ r125 (fun _ => by kernel_rfl) ((HX_b10_5.out.keepB hS).cellv rfl)) hS uS
    ·intro f w1 hS hf aA hA
     have t119 := pG 119 23 hA sbAltt16 (by kernel_rfl) zsz rfl (hf 23 (by decide))
     have r126 := pA 126 30 hA sbAltt16 (by kernel_rfl) zsz rfl (hf 30 (by decide))
     obtain ⟨q9, c9, hv9, _⟩ := (HU10_3.out.m.keep hS).cs
     exact fV rfl ((wanted_of rfl 119 rfl t119).trans rfl) _ (ex_len 24 42 (.tmp 126) rfl (by kernel_rfl) q9 (srt q.2.2).length c9 (r126.trans hv9)) hS uS
    ·intro f w1 hS hf aA hA
     have t119 := pG 119 23 hA sbAltt16 (by kernel_rfl) zsz rfl (hf 23 (by decide))
     have r124 := pA 124 28 hA sbAltt16 (by kernel_rfl) zsz rfl (hf 28 (by decide))
     have r127 := pA 127 31 hA sbAltt16 (by kernel_rfl) zsz rfl (hf 31 (by decide))
     exact fV rfl ((wanted_of rfl 119 rfl t119).trans rfl) _ (ex_int .sub _ _ (.tmp 124) (.tmp 127) rfl .i64 (((srt q.2.1).length : Int)) (((srt q.2.2).length : Int)) r124 r127 (.int .i64 (IntKind.i64.wrap ((((srt q.2.1).length : Int)) - (((srt q.2.2).length : Int))))) (fun _ => rfl)) hS uS
    ·intro f w1 hS hf aA hA
     have t119 := pG 119 23 hA sbAltt16 (by kernel_rfl) zsz rfl (hf 23 (by decide))
     have r121 := pA 121 25 hA sbAltt16 (by kernel_rfl) zsz rfl (hf 25 (by decide))
     have r128 := pA 128 32 hA sbAltt16 (by kernel_rfl) zsz rfl (hf 32 (by decide))
     exact fV rfl ((wanted_of rfl 119 rfl t119).trans rfl) _ (Eq.trans (ex_int .eql _ _ (.tmp 121) (.tmp 128) rfl .i64 (cntT (d)) (IntKind.i64.wrap ((((srt q.2.1).length : Int)) - (((srt q.2.2).length : Int)))) r121 r128 (.bool ((cntT (d)) == (IntKind.i64.wrap ((((srt q.2.1).length : Int)) - (((srt q.2.2).length : Int)))))) (fun _ => rfl)) (by rw [(beq_iff_eq.2 HCN.out : ((cntT (d)) == (IntKind.i64.wrap ((((srt q.2.1).length : Int)) - (((srt q.2.2).length : Int))))) = true)])) hS uS
    ·intro f w1 hS hf aA hA
     have r119 := pA 119 23 hA sbAltt16 (by kernel_rfl) zsz rfl (hf 23 (by decide))
     have r129 := pA 129 33 hA sbAltt16 (by kernel_rfl) zsz rfl (hf 33 (by decide))
     exact fV rfl rfl (.bool true) (ex_pick (.tmp 119) (.tmp 129) _ rfl true r119 ((if_pos rfl).trans r129)) hS uS
    ·intro f w1 hS hf aA hA
     have r130 := pA 130 34 hA sbAltt16 (by kernel_rfl) zsz rfl (hf 34 (by decide))
     exact fV rfl rfl _ (ex_assign (.tmp 130) rfl r130) hS uS
   intro f u16 hS hf hap
   have h0 : f 0 = .int .i64 0 := hf 0 (by decide)
   have h1 : f 1 = .bool true := hf 1 (by decide)
   have h2 : f 2 = .bool true := hf 2 (by decide)
   have h3 : f 3 = .agg #[.int .u64 (s : Int), v15_4] := hf 3 (by decide)
   obtain ⟨v16_4, h4, hu4⟩ := hf 4 (by decide)
   have HU16_4 := Lib.hid hu4
   clear hu4
   have h5 : f 5 = .agg #[.int .u64 (s : Int), v9_4] := hf 5 (by decide)
   obtain ⟨v16_6, h6, hu6⟩ := hf 6 (by decide)
   have HU16_6 := Lib.hid hu6
   clear hu6
   have h7 : f 7 = .bool true := hf 7 (by decide)
   have h8 : f 8 = .bool true := hf 8 (by decide)
   have h9 : f 9 = .bool true := hf 9 (by decide)
   have h10 : f 10 = .pointer (some ⟨b10_5, 2, none⟩) := hf 10 (by decide)
   have h11 : f 11 = .agg #[.int .u64 (s : Int), (fl v10_3 2)] := hf 11 (by decide)
   have h12 : f 12 = .bool true := hf 12 (by decide)
   have h13 : f 13 = .bool true := hf 13 (by decide)
   have h14 : f 14 = .bool true := hf 14 (by decide)
   have h15 : f 15 = .pointer (some ⟨b10_5, 0, none⟩) := hf 15 (by decide)
   have h16 : f 16 = (fl v10_3 0) := hf 16 (by decide)
   have h17 : f 17 = .pointer (some ⟨b10_5, 1, none⟩) := hf 17 (by decide)
   have h18 : f 18 = (fl v10_3 1) := hf 18 (by decide)
   obtain ⟨v16_19, h19, hu19⟩ : ∃ v, f 19 = v ∧ Us u16 v (botU (srt q.2.1) (srt q.2.2)) := ⟨_, rfl, (hf 19 (by decide))⟩
   have HU16_19 := Lib.hid hu19
   clear hu19
   have h20 : f 20 = .int .i64 0 := hf 20 (by decide)
   have h21 : f 21 = .bool true := hf 21 (by decide)
   have h22 : f 22 = .bool true := hf 22 (by decide)
   have h23 : f 23 = .bool true := hf 23 (by decide)
   have h24 : f 24 = .agg #[.int .u64 (s : Int), v9_4] := hf 24 (by decide)
   have h25 : f 25 = .int .i64 (cntT (d)) := hf 25 (by decide)
   have h26 : f 26 = .pointer (some ⟨b10_5, 0, none⟩) := hf 26 (by decide)
   have h27 : f 27 = (fl v10_3 0) := hf 27 (by decide)
   have h28 : f 28 = .int .i64 (((srt q.2.1).length : Int)) := hf 28 (by decide)
   have h29 : f 29 = .pointer (some ⟨b10_5, 1, none⟩) := hf 29 (by decide)
   have h30 : f 30 = (fl v10_3 1) := hf 30 (by decide)
   have h31 : f 31 = .int .i64 (((srt q.2.2).length : Int)) := hf 31 (by decide)
   have h32 : f 32 = .int .i64 (IntKind.i64.wrap ((((srt q.2.1).length : Int)) - (((srt q.2.2).length : Int)))) := hf 32 (by decide)
   have h33 : f 33 = .bool true := hf 33 (by decide)
   have h34 : f 34 = .bool true := hf 34 (by decide)
   have h35 : f 35 = .bool true := hf 35 (by decide)
   clear hf hap
   clear zsz z22 z21 z13 z15
   subst ha0
   simp only [slotsAltt16, putAll, h0, h1, h2, h3, h4, h5, h6, h7, h8, h9, h10, h11, h12, h13, h14, h15, h16, h17, h18, h19, h20, h21, h22, h23, h24, h25, h26, h27, h28, h29, h30, h31, h32, h33, h34, h35, Act.put, List.setIfInBounds_toArray, List.set_cons_zero, List.set_cons_succ]
   clear h0 h1 h2 h3 h4 h5 h6 h7 h8 h9 h10 h11 h12 h13 h14 h15 h16 h17 h18 h19 h20 h21 h22 h23 h24 h25 h26 h27 h28 h29 h30 h31 h32 h33 h34 h35
   refine tl_nilN ?_
   replace HX_b5_8 := Lib.hid (HX_b5_8.out.keepB hS)
   replace HU5_6 := Lib.hid (HU5_6.out.keep hS)
   replace HX_b6_8 := Lib.hid (HX_b6_8.out.keepB hS)
   replace HU6_6 := Lib.hid (HU6_6.out.keep hS)
   replace HX_b9_6 := Lib.hid (HX_b9_6.out.keepB hS)
   replace HU9_4 := Lib.hid (HU9_4.out.keep hS)
   replace HX_b10_5 := Lib.hid (HX_b10_5.out.keepB hS)
   replace HU10_3 := Lib.hid (HU10_3.out.keep hS)
   replace HX_b13_8 := Lib.hid (HX_b13_8.out.keepB hS)
   replace HU13_6 := Lib.hid (HU13_6.out.keep hS)
   replace HX_b14_8 := Lib.hid (HX_b14_8.out.keepB hS)
   replace HU14_6 := Lib.hid (HU14_6.out.keep hS)
   replace HX_b15_6 := Lib.hid (HX_b15_6.out.keepB hS)
   replace HU15_4 := Lib.hid (HU15_4.out.keep hS)
   replace HB := Lib.hid (HB.out.trans (hS.mono HB.out.size))
   clear hS
   go_wp2_with fail
   go_ret
   exact ⟨rfl, HB.out⟩
theorem peelAll_law (s : Nat) (n : Int) (la lb : List Int) (qa qb : Option Addr) (ca cb : Nat) (w : World) (hs : s < 18446744073709551616) (hL : Laid w) (ha : Sees w w.heap.size qa (la.map fun n => Value.int .i64 n)) (hb : Sees w w.heap.size qb (lb.map fun n => Value.int .i64 n)) : Calls Tryd.prog 6 #[.int .u64 (s : Int), .int .i64 n, .slice qa la.length ca, .slice qb lb.length cb] w fun e w' => e = .returned (.bool true) ∧ Below w.heap.size w w' := peelAll_b s n la lb qa qb ca cb w w (Below.refl _ _) hs hL ha hb
end Go.Proofs.YtnkcehmgagpadaaDoor
