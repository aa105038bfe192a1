/- The law TableSays: it answers true. Conditions: the sums' tables are laid; a seed of 64 bits; what comes in lies in memory. -/
import Derived.Test.YtepeloenijlnhaaDoorSq
import Derived.Test.YtepeloenijlnhaaDoorGp22
namespace Go.Proofs.YtepeloenijlnhaaDoor
open Go.RowKit
theorem same_tt (s : Nat) (L : List Ce) : (decide (s = s) && decide (L = L)) = true := by simp
def waitSy1 (i : Nat) : List Nat := ([[], [0]] : List (List Nat)).getD i []
def slotsSy1 : List (Nat × Nat) := [(25, 0), (26, 1)]
theorem sbSy1 : slotsB slotsSy1 = true := by kernel_rfl
theorem chkSy1 : flwO slotsSy1 waitSy1 2 (regOf Tryd.f4.body 1) = true := by kernel_rfl
def waitSy5 (i : Nat) : List Nat := ([[], [], [], [2], [0, 1, 3], [4], [5], [5], [], [0, 1, 2, 3, 4, 5, 6, 7, 8], [0, 1, 2, 3, 4, 5, 6, 7, 8, 9]] : List (List Nat)).getD i []
def slotsSy5 : List (Nat × Nat) := [(40, 0), (41, 1), (42, 2), (43, 3), (44, 4), (39, 5), (45, 6), (46, 7), (11, 8), (12, 10)]
theorem sbSy5 : slotsB slotsSy5 = true := by kernel_rfl
theorem chkSy5 : flwO slotsSy5 waitSy5 9 (regOf Tryd.f4.body 5) = true := by kernel_rfl
def waitSy6 (i : Nat) : List Nat := ([[], [], [], [2], [3], [0, 1, 4], [5], [6], [6], [], [0, 1, 2, 3, 4, 5, 6, 7, 8, 9], [0, 1, 2, 3, 4, 5, 6, 7, 8, 9, 10]] : List (List Nat)).getD i []
def slotsSy6 : List (Nat × Nat) := [(48, 0), (49, 1), (50, 2), (51, 3), (52, 4), (53, 5), (47, 6), (54, 7), (55, 8), (13, 9), (14, 11)]
theorem sbSy6 : slotsB slotsSy6 = true := by kernel_rfl
theorem chkSy6 : flwO slotsSy6 waitSy6 10 (regOf Tryd.f4.body 6) = true := by kernel_rfl
def waitSy7 (i : Nat) : List Nat := ([[], [], [], [2], [0, 1, 3], [4], [5], [5], [], [0, 1, 2, 3, 4, 5, 6, 7, 8], [0, 1, 2, 3, 4, 5, 6, 7, 8, 9]] : List (List Nat)).getD i []
def slotsSy7 : List (Nat × Nat) := [(57, 0), (58, 1), (59, 2), (60, 3), (61, 4), (56, 5), (62, 6), (63, 7), (15, 8), (16, 10)]
theorem sbSy7 : slotsB slotsSy7 = true := by kernel_rfl
theorem chkSy7 : flwO slotsSy7 waitSy7 9 (regOf Tryd.f4.body 7) = true := by kernel_rfl
def waitSy8 (i : Nat) : List Nat := ([[], [], [], [2], [3], [0, 1, 4], [5], [6], [6], [], [0, 1, 2, 3, 4, 5, 6, 7, 8, 9], [0, 1, 2, 3, 4, 5, 6, 7, 8, 9, 10]] : List (List Nat)).getD i []
def slotsSy8 : List (Nat × Nat) := [(65, 0), (66, 1), (67, 2), (68, 3), (69, 4), (70, 5), (64, 6), (71, 7), (72, 8), (17, 9), (18, 11)]
theorem sbSy8 : slotsB slotsSy8 = true := by kernel_rfl
theorem chkSy8 : flwO slotsSy8 waitSy8 10 (regOf Tryd.f4.body 8) = true := by kernel_rfl
def waitSy9 (i : Nat) : List Nat := ([[], [], [0, 1], [2], [3], [3], [], [0, 1, 2, 3, 4, 5, 6], [0, 1, 2, 3, 4, 5, 6, 7]] : List (List Nat)).getD i []
def slotsSy9 : List (Nat × Nat) := [(74, 0), (75, 1), (76, 2), (73, 3), (77, 4), (78, 5), (19, 6), (20, 8)]
theorem sbSy9 : slotsB slotsSy9 = true := by kernel_rfl
theorem chkSy9 : flwO slotsSy9 waitSy9 7 (regOf Tryd.f4.body 9) = true := by kernel_rfl
def waitSy10 (i : Nat) : List Nat := ([[], [], [0, 1], [2], [3], [3], [], [0, 1, 2, 3, 4, 5, 6], [0, 1, 2, 3, 4, 5, 6, 7]] : List (List Nat)).getD i []
def slotsSy10 : List (Nat × Nat) := [(80, 0), (81, 1), (82, 2), (79, 3), (83, 4), (84, 5), (21, 6), (22, 8)]
theorem sbSy10 : slotsB slotsSy10 = true := by kernel_rfl
theorem chkSy10 : flwO slotsSy10 waitSy10 7 (regOf Tryd.f4.body 10) = true := by kernel_rfl
def waitSy11 (i : Nat) : List Nat := ([[], [], [0, 1], [2], [3], [3], [3, 4, 5], [3, 6], [7], [8], [8], [8, 9, 10], [8, 11], [12], [13], [13, 14], [13], [13, 15, 16], [13, 17], [13, 18], [19], [20], [20, 21], [20], [20, 22, 23], [20, 24], [20, 25]] : List (List Nat)).getD i []
def slotsSy11 : List (Nat × Nat) := [(85, 0), (86, 1), (87, 2), (88, 3), (89, 4), (90, 5), (91, 6), (92, 7), (93, 8), (94, 9), (95, 10), (96, 11), (97, 12), (98, 13), (99, 14), (100, 15), (101, 16), (102, 17), (103, 18), (104, 19), (105, 20), (106, 21), (107, 22), (108, 23), (109, 24), (110, 25), (111, 26)]
theorem sbSy11 : slotsB slotsSy11 = true := by kernel_rfl
theorem chkSy11 : flwB slotsSy11 waitSy11 27 (regOf Tryd.f4.body 11) = true := by kernel_rfl
def waitSyf13 (i : Nat) : List Nat := ([[], [0]] : List (List Nat)).getD i []
def slotsSyf13 : List (Nat × Nat) := [(112, 0), (113, 1)]
theorem sbSyf13 : slotsB slotsSyf13 = true := by kernel_rfl
theorem chkSyf13 : flwO slotsSyf13 waitSyf13 2 (regOf Tryd.f4.body 13) = true := by kernel_rfl
def waitSyf14 (i : Nat) : List Nat := ([[], [0], [1], [2], [3]] : List (List Nat)).getD i []
def slotsSyf14 : List (Nat × Nat) := [(114, 0), (115, 1), (116, 2), (117, 3), (10, 4)]
theorem sbSyf14 : slotsB slotsSyf14 = true := by kernel_rfl
theorem chkSyf14 : flwO slotsSyf14 waitSyf14 5 (regOf Tryd.f4.body 14) = true := by kernel_rfl
def waitSyt13 (i : Nat) : List Nat := ([[], [0]] : List (List Nat)).getD i []
def slotsSyt13 : List (Nat × Nat) := [(112, 0), (113, 1)]
theorem sbSyt13 : slotsB slotsSyt13 = true := by kernel_rfl
theorem chkSyt13 : flwO slotsSyt13 waitSyt13 2 (regOf Tryd.f4.body 13) = true := by kernel_rfl
def waitSyt15 (i : Nat) : List Nat := ([[], [], [], [], [0, 2], [0, 1, 2, 3, 4]] : List (List Nat)).getD i []
def slotsSyt15 : List (Nat × Nat) := [(118, 0), (119, 1), (23, 2), (24, 3)]
theorem sbSyt15 : slotsB slotsSyt15 = true := by kernel_rfl
theorem chkSyt15 : flwB slotsSyt15 waitSyt15 5 (regOf Tryd.f4.body 15) = true := by kernel_rfl
def waitSyt16 (i : Nat) : List Nat := ([[], [], [0, 1], [2], [], [], [4, 5], [3, 6], [7], [8], [8], [8, 9, 10], [8, 11], [8], [8], [8, 13, 14], [8, 12, 15], [8, 16], [17], [18], [18, 19], [18], [18, 21], [18, 20, 22], [18, 23], [24], [25], [25, 26], [25], [25, 28], [25, 27, 29], [25, 30], [31], [32], [32, 33], [32, 34], [35]] : List (List Nat)).getD i []
def slotsSyt16 : List (Nat × Nat) := [(120, 0), (121, 1), (122, 2), (123, 3), (124, 4), (125, 5), (126, 6), (127, 7), (128, 8), (129, 9), (130, 10), (131, 11), (132, 12), (133, 13), (134, 14), (135, 15), (136, 16), (137, 17), (138, 18), (139, 19), (140, 20), (141, 21), (142, 22), (143, 23), (144, 24), (145, 25), (146, 26), (147, 27), (148, 28), (149, 29), (150, 30), (151, 31), (152, 32), (153, 33), (154, 34), (155, 35), (10, 36)]
theorem sbSyt16 : slotsB slotsSyt16 = true := by kernel_rfl
theorem chkSyt16 : flwB slotsSyt16 waitSyt16 37 (regOf Tryd.f4.body 16) = true := by kernel_rfl
set_option maxHeartbeats 16000000 in
set_option maxRecDepth 100000 in
theorem tableSays_b (s : Nat) (n : Int) (x : Su) (A B : List Su) (qa qb : Option Addr) (ca cb : Nat) (w w0 : World) (hB : Below w.heap.size w w0) (hs : s < 18446744073709551616) (hL : Laid w) (ha : Sees w w.heap.size qa (rowU A)) (hb : Sees w w.heap.size qb (rowU B)) : Calls Tryd.prog 4 #[.int .u64 (s : Int), .int .i64 n, .slice qa A.length ca, .slice qb B.length cb, .agg (encU x).toArray] w0 fun e w' => e = .returned (.bool true) ∧ Below w.heap.size w w' := by
 have HB := Lib.hid hB
 clear hB
 have HL := Lib.hid hL
 have HSZ := Lib.hid hL.size
 have HSD := Lib.hid hs
 have HSA : Hid (SeS w (.slice qa A.length ca) A) := Lib.hid ⟨qa, ca, rfl, ha⟩
 have HSB : Hid (SeS w (.slice qb B.length cb) B) := Lib.hid ⟨qb, cb, rfl, hb⟩
 clear hL hs ha hb
 go_enter Tryd.func4, Tryd.ntmps4
 go_upto_region 0 with fail
 refine wp_region_lit ?_
 try simp only [Act.put, List.setIfInBounds_toArray, List.set_cons_zero, List.set_cons_succ]
 refine lp_step rfl (fun K hK => wp_box_row 40 (.tmp 4) rfl (.agg (encU x).toArray) rfl (hK _ _ ?_))
 try simp only [Act.put, List.setIfInBounds_toArray, List.set_cons_zero, List.set_cons_succ]
 show wpList _ _ _ _ _ (w0.alloc (.cells (encU x).toArray 40))
 have HST : Hid (Below w0.heap.size w0 (w0.alloc (.cells (encU x).toArray 40))) := Lib.hid ((Below.refl _ _).alloc (Nat.le_refl _) _)
 have HX1 : Hid (Has (w0.alloc (.cells (encU x).toArray 40)) w0.heap.size 40 (encU x)) := Lib.hid (Has.made' _ _ _ _ rfl)
 have HGg1 : Hid (w.heap.size ≤ w0.heap.size) := Lib.hid HB.out.size
 replace HB := Lib.hid (HB.out.trans (HST.out.mono HB.out.size))
 clear HST
 generalize w0.alloc (.cells (encU x).toArray 40) = w1 at *
 generalize w0.heap.size = g1 at *
 refine lp_pure (v := .bool false) rfl (ex_assign _ rfl rfl) ?_
 try simp only [Act.put, List.setIfInBounds_toArray, List.set_cons_zero, List.set_cons_succ]
 refine wpList_nil ?_
 go_upto_region 1 with fail
 refine wp_act (fun a0 ha0 => ?_)
 have zsz : a0.tmps.size = 156 := by rw [ha0]; rfl
 refine wrO [] slotsSy1 waitSy1 [Fct.val Flz 0 (.bool true), Fct.val Flz 1 (.bool false)] (fun w' => Below w1.heap.size w1 w') _ 2 0 chkSy1 (by kernel_rfl) (by kernel_rfl) (by kernel_rfl) (by decide) (Below.refl _ _) ?_ ?_
 ·refine lt_s (lt_s (lt_0) ?_) ?_
  ·intro f w1 hS hf aA hA
   exact fC rfl rfl 7 #[] _ rfl #[] (by kernel_rfl) (fun w => by kernel_rfl) _ (awake15_any w1 (HL.out.keep (HB.out.trans (hS.mono HB.out.size)) HSZ.out)) hS (fun _ _ h => uS.trans h)
  ·intro f w1 hS hf aA hA
   have r25 : aA.eval (.tmp 25) = .bool true := pA 25 0 hA sbSy1 (by kernel_rfl) zsz rfl (hf 0 (by decide))
   exact fV rfl rfl (.bool false) (ex_not _ (.tmp 25) rfl r25) hS uS
 intro f u1 hS hf hap
 have h0 : f 0 = .bool true := hf 0 (by decide)
 have h1 : f 1 = .bool false := hf 1 (by decide)
 clear hf hap
 clear zsz
 subst ha0
 simp only [slotsSy1, putAll, h0, h1, Act.put, List.setIfInBounds_toArray, List.set_cons_zero, List.set_cons_succ]
 clear h0 h1
 refine tl_nil ?_
 replace HX1 := Lib.hid (HX1.out.keepB hS)
 replace HB := Lib.hid (HB.out.trans (hS.mono HB.out.size))
 clear hS
 by_cases h1 : 40 < A.length
 ·have k1 : (40 : Int) < (A.length : Int) := by omega
  go_wp2_with fail
  go_ret
  exact ⟨rfl, HB.out⟩
 have k1 : ¬ (40 : Int) < (A.length : Int) := by omega
 by_cases h2 : 40 < B.length
 ·have k2 : (40 : Int) < (B.length : Int) := by omega
  go_wp2_with fail
  go_ret
  exact ⟨rfl, HB.out⟩
 have k2 : ¬ (40 : Int) < (B.length : Int) := by omega
 by_cases h3 : 300 < n
 ·go_wp2_with fail
  go_ret
  exact ⟨rfl, HB.out⟩
 have HLA : Hid (A.length ≤ 40) := Lib.hid (by omega)
 have HLB : Hid (B.length ≤ 40) := Lib.hid (by omega)
 clear h1 h2
 obtain ⟨RA, hra⟩ : ∃ R, R = ofT s n A := ⟨_, rfl⟩
 obtain ⟨RB, hrb⟩ : ∃ R, R = ofT s n B := ⟨_, rfl⟩
 obtain ⟨RM, hrm⟩ : ∃ R, R = minusT RA.1 RA.2.1 RB.1 RB.2.1 := ⟨_, rfl⟩
 have HRA := Lib.hid hra
 have HRB := Lib.hid hrb
 have HRM := Lib.hid hrm
 have HST : Hid (RA.1 = RB.1 ∧ RA.2.1.length = RB.2.1.length) := Lib.hid (by rw [hra, hrb]; exact ofT_same)
 have HSA5 : Hid (RA.2.1.length ≤ 10000) := Lib.hid (by rw [hra]; exact ofT_len)
 have HSM5 : Hid (RM.2.1.length ≤ 10000) := Lib.hid (by rw [hrm]; exact minusT_small HSA5.out)
 clear hra hrb hrm
 go_upto_region 5 with fail
 refine wp_act (fun a0 ha0 => ?_)
 have zsz : a0.tmps.size = 156 := by rw [ha0]; rfl
 have z0 : a0.eval (.tmp 0) = .int .u64 (s : Int) := by rw [ha0]; rfl
 have z1 : a0.eval (.tmp 1) = .int .i64 n := by rw [ha0]; rfl
 have z2 : a0.eval (.tmp 2) = .slice qa A.length ca := by rw [ha0]; rfl
 refine wrO [] slotsSy5 waitSy5 [Fct.val Flz 0 (.int .u64 (s : Int)), Fct.val Flz 1 (.int .i64 n), Fct.val Flz 2 (.slice qa A.length ca), Fct.obj 3 (fun v w => Us w v (A)) (fun _ _ _ h he => h.flz he), Fct.obj 4 (fun v w => ∃ zz, v = .tuple #[.agg #[.int .u64 (RA.1 : Int), zz], .int .i64 (RA.2.2)] ∧ Cs w zz (RA.2.1)) (fun _ _ _ ⟨zz, a, b⟩ he => ⟨zz, a, b.flz he⟩), Fct.obj 5 (fun v w => ∃ zz, v = .tuple #[.agg #[.int .u64 (RA.1 : Int), zz], .int .i64 (RA.2.2)] ∧ Cs w zz (RA.2.1)) (fun _ _ _ ⟨zz, a, b⟩ he => ⟨zz, a, b.flz he⟩), Fct.obj 6 (fun v w => ∃ zz, v = .agg #[.int .u64 (RA.1 : Int), zz] ∧ Cs w zz (RA.2.1)) (fun _ _ _ ⟨zz, a, b⟩ he => ⟨zz, a, b.flz he⟩), Fct.val Flz 7 (.int .i64 (RA.2.2)), Fct.obj 8 (fun v w => ∃ g, v = .pointer (some ⟨g, 0, none⟩) ∧ u1.heap.size ≤ g ∧ Has w g 26 ([.int .u64 0, .slice none 0 0])) (fun _ _ _ ⟨g, a, b, c⟩ he => ⟨g, a, b, c.flz he (by decide)⟩)] (fun w' => Below u1.heap.size u1 w') _ 9 2 chkSy5 (by kernel_rfl) (by kernel_rfl) (by kernel_rfl) (by decide) (Below.refl _ _) ?_ ?_
 ·refine lt_s (lt_s (lt_s (lt_s (lt_s (lt_s (lt_s (lt_s (lt_s (lt_0) ?_) ?_) ?_) ?_) ?_) ?_) ?_) ?_) ?_
  ·intro f w1 hS hf aA hA
   have r0 : aA.eval (.tmp 0) = .int .u64 (s : Int) := pO 0 hA (by kernel_rfl) z0
   exact fV rfl rfl (.int .u64 (s : Int)) (ex_move (.tmp 0) rfl r0) hS uS
  ·intro f w1 hS hf aA hA
   have r1 : aA.eval (.tmp 1) = .int .i64 n := pO 1 hA (by kernel_rfl) z1
   exact fV rfl rfl (.int .i64 n) (ex_move (.tmp 1) rfl r1) hS uS
  ·intro f w1 hS hf aA hA
   have r2 : aA.eval (.tmp 2) = .slice qa A.length ca := pO 2 hA (by kernel_rfl) z2
   exact fV rfl rfl (.slice qa A.length ca) (ex_move (.tmp 2) rfl r2) hS uS
  ·intro f w1 hS hf aA hA
   have r42 : aA.eval (.tmp 42) = .slice qa A.length ca := pA 42 2 hA sbSy5 (by kernel_rfl) zsz rfl (hf 2 (by decide))
   exact flw_call rfl rfl 18 #[(.tmp 42)] _ rfl #[.slice qa A.length ca] (mp1 r42) (fun w => by kernel_rfl) (fun v w' => Us w' v (A)) (row_us (HSA.out.keep (HB.out.trans (hS.mono HB.out.size))) (Nat.le_trans HLA.out (by decide))) (fun v w' hr hb => ⟨hS.trans (hb.mono hS.size), Flz.of hb, (show Us w' (updF f 3 v 3) (A) by rw [updF_self]; exact hr)⟩)
  ·intro f w1 hS hf aA hA
   have r40 : aA.eval (.tmp 40) = .int .u64 (s : Int) := pA 40 0 hA sbSy5 (by kernel_rfl) zsz rfl (hf 0 (by decide))
   have r41 : aA.eval (.tmp 41) = .int .i64 n := pA 41 1 hA sbSy5 (by kernel_rfl) zsz rfl (hf 1 (by decide))
   have hu3 : Us w1 (f 3) (A) := (hf 3 (by decide))
   have e43 : aA.eval (.tmp 43) = f 3 := pA 43 3 hA sbSy5 (by kernel_rfl) zsz rfl rfl
   exact fC rfl rfl 9 #[(.tmp 40), (.tmp 41), (.tmp 43)] _ rfl #[.int .u64 (s : Int), .int .i64 n, f 3] (mp3 r40 r41 e43) (fun w => by kernel_rfl) _ (of_as s n _ A HRA.out w1 HSD.out (HL.out.keep (HB.out.trans (hS.mono HB.out.size)) HSZ.out) (Nat.le_trans HLA.out (by decide)) hu3) hS (fun _ _ ⟨zz, a, b⟩ => ⟨zz, uS.trans a, b⟩)
  ·intro f w1 hS hf aA hA
   obtain ⟨x44, hx44, hr44⟩ := hf 4 (by decide)
   have e44 : aA.eval (.tmp 44) = .tuple #[.agg #[.int .u64 (RA.1 : Int), x44], .int .i64 (RA.2.2)] := pA 44 4 hA sbSy5 (by kernel_rfl) zsz rfl hx44
   exact flw_val rfl rfl (.tuple #[.agg #[.int .u64 (RA.1 : Int), x44], .int .i64 (RA.2.2)]) (ex_move (.tmp 44) rfl e44) hS (Flz.refl _) ⟨x44, uS, hr44⟩
  ·intro f w1 hS hf aA hA
   obtain ⟨x39, hx39, hr39⟩ := hf 5 (by decide)
   have e39 : aA.eval (.tmp 39) = .tuple #[.agg #[.int .u64 (RA.1 : Int), x39], .int .i64 (RA.2.2)] := pA 39 5 hA sbSy5 (by kernel_rfl) zsz rfl hx39
   exact flw_val rfl rfl (.agg #[.int .u64 (RA.1 : Int), x39]) (ex_extract (.tmp 39) 0 rfl e39 rfl) hS (Flz.refl _) ⟨x39, uS, hr39⟩
  ·intro f w1 hS hf aA hA
   obtain ⟨x39, hx39, hr39⟩ := hf 5 (by decide)
   have e39 : aA.eval (.tmp 39) = .tuple #[.agg #[.int .u64 (RA.1 : Int), x39], .int .i64 (RA.2.2)] := pA 39 5 hA sbSy5 (by kernel_rfl) zsz rfl hx39
   exact fV rfl rfl (.int .i64 (RA.2.2)) (ex_extract (.tmp 39) 1 rfl e39 rfl) hS uS
  ·intro f w1 hS hf aA hA
   exact flw_wp rfl rfl (fun K hK => wp_alloc_row 26 rfl (.agg #[.int .u64 0, .slice none 0 0]) (fun w => by kernel_rfl) (hK _ _ (hS.alloc hS.size _) (Flz.al _ _) ⟨_, uS, hS.size, Has.made' _ _ _ _ rfl⟩))
 intro f x5 hS hf hap
 have h0 : f 0 = .int .u64 (s : Int) := hf 0 (by decide)
 have h1 : f 1 = .int .i64 n := hf 1 (by decide)
 have h2 : f 2 = .slice qa A.length ca := hf 2 (by decide)
 obtain ⟨v5_3, h3, hu3⟩ : ∃ v, f 3 = v ∧ Us x5 v (A) := ⟨_, rfl, (hf 3 (by decide))⟩
 have HU5_3 := Lib.hid hu3
 clear hu3
 obtain ⟨v5_4, h4, -⟩ := hf 4 (by decide)
 obtain ⟨v5_5, h5, -⟩ := hf 5 (by decide)
 obtain ⟨v5_6, h6, hu6⟩ := hf 6 (by decide)
 have HU5_6 := Lib.hid hu6
 clear hu6
 have h7 : f 7 = .int .i64 (RA.2.2) := hf 7 (by decide)
 obtain ⟨b5_8, h8, hgb8, hhb8⟩ := hf 8 (by decide)
 clear hf hap
 clear zsz z0 z1 z2
 subst ha0
 simp only [slotsSy5, putAll, h0, h1, h2, h3, h4, h5, h6, h7, h8, Act.put, List.setIfInBounds_toArray, List.set_cons_zero, List.set_cons_succ]
 clear h0 h1 h2 h3 h4 h5 h6 h7 h8
 refine tl_store rfl (by kernel_rfl) 26 (.tmp 11) (.tmp 45) rfl b5_8 ([.int .u64 (RA.1 : Int), v5_6]) _ rfl rfl _ hhb8 (by kernel_rfl) rfl (tb_ones _ HU5_6.out.one) ?_
 intro u5 hp8 hbl hot
 replace hS := hS.trans (hbl _ hgb8)
 replace HU5_3 := Lib.hid (HU5_3.out.hotb hhb8 ⟨_, _, _, rfl⟩ (by decide) (hbl 0 (Nat.zero_le _)).size hot)
 replace HU5_6 := Lib.hid (HU5_6.out.hotb hhb8 ⟨_, _, _, rfl⟩ (by decide) (hbl 0 (Nat.zero_le _)).size hot)
 clear hbl hot hhb8
 try simp only [Act.put]
 refine tl_pure rfl (by kernel_rfl) (.int .i64 (RA.2.2)) (ex_assign (.tmp 46) rfl rfl) ?_
 try simp only [Act.put, List.setIfInBounds_toArray, List.set_cons_zero, List.set_cons_succ]
 refine tl_nil ?_
 replace HX1 := Lib.hid (HX1.out.keepB hS)
 have HBW := Lib.hid HB.out.size
 replace HB := Lib.hid (HB.out.trans (hS.mono HB.out.size))
 clear hS
 have HGb5_8 : Hid (w.heap.size ≤ b5_8) := Lib.hid (Nat.le_trans HBW.out hgb8)
 have HX_b5_8 : Hid (Has u5 b5_8 26 ([.int .u64 (RA.1 : Int), v5_6])) := Lib.hid hp8
 clear hp8 hgb8
 clear HBW
 clear HU5_3
 go_upto_region 6 with fail
 refine wp_act (fun a0 ha0 => ?_)
 have zsz : a0.tmps.size = 156 := by rw [ha0]; rfl
 have z0 : a0.eval (.tmp 0) = .int .u64 (s : Int) := by rw [ha0]; rfl
 have z1 : a0.eval (.tmp 1) = .int .i64 n := by rw [ha0]; rfl
 have z2 : a0.eval (.tmp 2) = .slice qa A.length ca := by rw [ha0]; rfl
 refine wrO [] slotsSy6 waitSy6 [Fct.val Flz 0 (.int .u64 (s : Int)), Fct.val Flz 1 (.int .i64 n), Fct.val Flz 2 (.slice qa A.length ca), Fct.obj 3 (fun v w => Us w v (A)) (fun _ _ _ h he => h.flz he), Fct.obj 4 (fun v w => Us w v (A)) (fun _ _ _ h he => h.flz he), Fct.obj 5 (fun v w => ∃ zz, v = .tuple #[.agg #[.int .u64 (RA.1 : Int), zz], .int .i64 (RA.2.2)] ∧ Cs w zz (RA.2.1)) (fun _ _ _ ⟨zz, a, b⟩ he => ⟨zz, a, b.flz he⟩), Fct.obj 6 (fun v w => ∃ zz, v = .tuple #[.agg #[.int .u64 (RA.1 : Int), zz], .int .i64 (RA.2.2)] ∧ Cs w zz (RA.2.1)) (fun _ _ _ ⟨zz, a, b⟩ he => ⟨zz, a, b.flz he⟩), Fct.obj 7 (fun v w => ∃ zz, v = .agg #[.int .u64 (RA.1 : Int), zz] ∧ Cs w zz (RA.2.1)) (fun _ _ _ ⟨zz, a, b⟩ he => ⟨zz, a, b.flz he⟩), Fct.val Flz 8 (.int .i64 (RA.2.2)), Fct.obj 9 (fun v w => ∃ g, v = .pointer (some ⟨g, 0, none⟩) ∧ u5.heap.size ≤ g ∧ Has w g 37 ([.int .u64 0, .slice none 0 0])) (fun _ _ _ ⟨g, a, b, c⟩ he => ⟨g, a, b, c.flz he (by decide)⟩)] (fun w' => Below u5.heap.size u5 w') _ 10 2 chkSy6 (by kernel_rfl) (by kernel_rfl) (by kernel_rfl) (by decide) (Below.refl _ _) ?_ ?_
 ·refine lt_s (lt_s (lt_s (lt_s (lt_s (lt_s (lt_s (lt_s (lt_s (lt_s (lt_0) ?_) ?_) ?_) ?_) ?_) ?_) ?_) ?_) ?_) ?_
  ·intro f w1 hS hf aA hA
   have r0 : aA.eval (.tmp 0) = .int .u64 (s : Int) := pO 0 hA (by kernel_rfl) z0
   exact fV rfl rfl (.int .u64 (s : Int)) (ex_move (.tmp 0) rfl r0) hS uS
  ·intro f w1 hS hf aA hA
   have r1 : aA.eval (.tmp 1) = .int .i64 n := pO 1 hA (by kernel_rfl) z1
   exact fV rfl rfl (.int .i64 n) (ex_move (.tmp 1) rfl r1) hS uS
  ·intro f w1 hS hf aA hA
   have r2 : aA.eval (.tmp 2) = .slice qa A.length ca := pO 2 hA (by kernel_rfl) z2
   exact fV rfl rfl (.slice qa A.length ca) (ex_move (.tmp 2) rfl r2) hS uS
  ·intro f w1 hS hf aA hA
   have r50 : aA.eval (.tmp 50) = .slice qa A.length ca := pA 50 2 hA sbSy6 (by kernel_rfl) zsz rfl (hf 2 (by decide))
   exact flw_call rfl rfl 18 #[(.tmp 50)] _ rfl #[.slice qa A.length ca] (mp1 r50) (fun w => by kernel_rfl) (fun v w' => Us w' v (A)) (row_us (HSA.out.keep (HB.out.trans (hS.mono HB.out.size))) (Nat.le_trans HLA.out (by decide))) (fun v w' hr hb => ⟨hS.trans (hb.mono hS.size), Flz.of hb, (show Us w' (updF f 3 v 3) (A) by rw [updF_self]; exact hr)⟩)
  ·intro f w1 hS hf aA hA
   have hu3 : Us w1 (f 3) (A) := (hf 3 (by decide))
   have e51 : aA.eval (.tmp 51) = f 3 := pA 51 3 hA sbSy6 (by kernel_rfl) zsz rfl rfl
   exact flw_call rfl rfl 20 #[(.tmp 51)] _ rfl #[f 3] (mp1 e51) (fun w => by kernel_rfl) (fun v w' => Us w' v (A)) (own_us hu3 (Nat.le_trans HLA.out (by decide))) (fun v w' hr hb => ⟨hS.trans (hb.mono hS.size), Flz.of hb, (show Us w' (updF f 4 v 4) (A) by rw [updF_self]; exact hr)⟩)
  ·intro f w1 hS hf aA hA
   have r48 : aA.eval (.tmp 48) = .int .u64 (s : Int) := pA 48 0 hA sbSy6 (by kernel_rfl) zsz rfl (hf 0 (by decide))
   have r49 : aA.eval (.tmp 49) = .int .i64 n := pA 49 1 hA sbSy6 (by kernel_rfl) zsz rfl (hf 1 (by decide))
   have hu4 : Us w1 (f 4) (A) := (hf 4 (by decide))
   have e52 : aA.eval (.tmp 52) = f 4 := pA 52 4 hA sbSy6 (by kernel_rfl) zsz rfl rfl
   exact fC rfl rfl 19 #[(.tmp 48), (.tmp 49), (.tmp 52)] _ rfl #[.int .u64 (s : Int), .int .i64 n, f 4] (mp3 r48 r49 e52) (fun w => by kernel_rfl) _ (rof_as s n _ A HRA.out w1 HSD.out  (Nat.le_trans HLA.out (by decide)) hu4) hS (fun _ _ ⟨zz, a, b⟩ => ⟨zz, uS.trans a, b⟩)
  ·intro f w1 hS hf aA hA
   obtain ⟨x53, hx53, hr53⟩ := hf 5 (by decide)
   have e53 : aA.eval (.tmp 53) = .tuple #[.agg #[.int .u64 (RA.1 : Int), x53], .int .i64 (RA.2.2)] := pA 53 5 hA sbSy6 (by kernel_rfl) zsz rfl hx53
   exact flw_val rfl rfl (.tuple #[.agg #[.int .u64 (RA.1 : Int), x53], .int .i64 (RA.2.2)]) (ex_move (.tmp 53) rfl e53) hS (Flz.refl _) ⟨x53, uS, hr53⟩
  ·intro f w1 hS hf aA hA
   obtain ⟨x47, hx47, hr47⟩ := hf 6 (by decide)
   have e47 : aA.eval (.tmp 47) = .tuple #[.agg #[.int .u64 (RA.1 : Int), x47], .int .i64 (RA.2.2)] := pA 47 6 hA sbSy6 (by kernel_rfl) zsz rfl hx47
   exact flw_val rfl rfl (.agg #[.int .u64 (RA.1 : Int), x47]) (ex_extract (.tmp 47) 0 rfl e47 rfl) hS (Flz.refl _) ⟨x47, uS, hr47⟩
  ·intro f w1 hS hf aA hA
   obtain ⟨x47, hx47, hr47⟩ := hf 6 (by decide)
   have e47 : aA.eval (.tmp 47) = .tuple #[.agg #[.int .u64 (RA.1 : Int), x47], .int .i64 (RA.2.2)] := pA 47 6 hA sbSy6 (by kernel_rfl) zsz rfl hx47
   exact fV rfl rfl (.int .i64 (RA.2.2)) (ex_extract (.tmp 47) 1 rfl e47 rfl) hS uS
  ·intro f w1 hS hf aA hA
   exact flw_wp rfl rfl (fun K hK => wp_alloc_row 37 rfl (.agg #[.int .u64 0, .slice none 0 0]) (fun w => by kernel_rfl) (hK _ _ (hS.alloc hS.size _) (Flz.al _ _) ⟨_, uS, hS.size, Has.made' _ _ _ _ rfl⟩))
 intro f x6 hS hf hap
 have h0 : f 0 = .int .u64 (s : Int) := hf 0 (by decide)
 have h1 : f 1 = .int .i64 n := hf 1 (by decide)
 have h2 : f 2 = .slice qa A.length ca := hf 2 (by decide)
 obtain ⟨v6_3, h3, hu3⟩ : ∃ v, f 3 = v ∧ Us x6 v (A) := ⟨_, rfl, (hf 3 (by decide))⟩
 have HU6_3 := Lib.hid hu3
 clear hu3
 obtain ⟨v6_4, h4, hu4⟩ : ∃ v, f 4 = v ∧ Us x6 v (A) := ⟨_, rfl, (hf 4 (by decide))⟩
 have HU6_4 := Lib.hid hu4
 clear hu4
 obtain ⟨v6_5, h5, -⟩ := hf 5 (by decide)
 obtain ⟨v6_6, h6, -⟩ := hf 6 (by decide)
 obtain ⟨v6_7, h7, hu7⟩ := hf 7 (by decide)
 have HU6_7 := Lib.hid hu7
 clear hu7
 have h8 : f 8 = .int .i64 (RA.2.2) := hf 8 (by decide)
 obtain ⟨b6_9, h9, hgb9, hhb9⟩ := hf 9 (by decide)
 clear hf hap
 clear zsz z0 z1 z2
 subst ha0
 simp only [slotsSy6, putAll, h0, h1, h2, h3, h4, h5, h6, h7, h8, h9, Act.put, List.setIfInBounds_toArray, List.set_cons_zero, List.set_cons_succ]
 clear h0 h1 h2 h3 h4 h5 h6 h7 h8 h9
 refine tl_store rfl (by kernel_rfl) 37 (.tmp 13) (.tmp 54) rfl b6_9 ([.int .u64 (RA.1 : Int), v6_7]) _ rfl rfl _ hhb9 (by kernel_rfl) rfl (tb_ones _ HU6_7.out.one) ?_
 intro u6 hp9 hbl hot
 replace hS := hS.trans (hbl _ hgb9)
 replace HU6_3 := Lib.hid (HU6_3.out.hotb hhb9 ⟨_, _, _, rfl⟩ (by decide) (hbl 0 (Nat.zero_le _)).size hot)
 replace HU6_4 := Lib.hid (HU6_4.out.hotb hhb9 ⟨_, _, _, rfl⟩ (by decide) (hbl 0 (Nat.zero_le _)).size hot)
 replace HU6_7 := Lib.hid (HU6_7.out.hotb hhb9 ⟨_, _, _, rfl⟩ (by decide) (hbl 0 (Nat.zero_le _)).size hot)
 clear hbl hot hhb9
 try simp only [Act.put]
 refine tl_pure rfl (by kernel_rfl) (.int .i64 (RA.2.2)) (ex_assign (.tmp 55) rfl rfl) ?_
 try simp only [Act.put, List.setIfInBounds_toArray, List.set_cons_zero, List.set_cons_succ]
 refine tl_nil ?_
 replace HX1 := Lib.hid (HX1.out.keepB hS)
 replace HX_b5_8 := Lib.hid (HX_b5_8.out.keepB hS)
 replace HU5_6 := Lib.hid (HU5_6.out.keep hS)
 have HBW := Lib.hid HB.out.size
 replace HB := Lib.hid (HB.out.trans (hS.mono HB.out.size))
 clear hS
 have HGb6_9 : Hid (w.heap.size ≤ b6_9) := Lib.hid (Nat.le_trans HBW.out hgb9)
 have HX_b6_9 : Hid (Has u6 b6_9 37 ([.int .u64 (RA.1 : Int), v6_7])) := Lib.hid hp9
 clear hp9 hgb9
 clear HBW
 clear HU6_3 HU6_4
 go_upto_region 7 with fail
 refine wp_act (fun a0 ha0 => ?_)
 have zsz : a0.tmps.size = 156 := by rw [ha0]; rfl
 have z0 : a0.eval (.tmp 0) = .int .u64 (s : Int) := by rw [ha0]; rfl
 have z1 : a0.eval (.tmp 1) = .int .i64 n := by rw [ha0]; rfl
 have z3 : a0.eval (.tmp 3) = .slice qb B.length cb := by rw [ha0]; rfl
 refine wrO [] slotsSy7 waitSy7 [Fct.val Flz 0 (.int .u64 (s : Int)), Fct.val Flz 1 (.int .i64 n), Fct.val Flz 2 (.slice qb B.length cb), Fct.obj 3 (fun v w => Us w v (B)) (fun _ _ _ h he => h.flz he), Fct.obj 4 (fun v w => ∃ zz, v = .tuple #[.agg #[.int .u64 (RB.1 : Int), zz], .int .i64 (RB.2.2)] ∧ Cs w zz (RB.2.1)) (fun _ _ _ ⟨zz, a, b⟩ he => ⟨zz, a, b.flz he⟩), Fct.obj 5 (fun v w => ∃ zz, v = .tuple #[.agg #[.int .u64 (RB.1 : Int), zz], .int .i64 (RB.2.2)] ∧ Cs w zz (RB.2.1)) (fun _ _ _ ⟨zz, a, b⟩ he => ⟨zz, a, b.flz he⟩), Fct.obj 6 (fun v w => ∃ zz, v = .agg #[.int .u64 (RB.1 : Int), zz] ∧ Cs w zz (RB.2.1)) (fun _ _ _ ⟨zz, a, b⟩ he => ⟨zz, a, b.flz he⟩), Fct.val Flz 7 (.int .i64 (RB.2.2)), Fct.obj 8 (fun v w => ∃ g, v = .pointer (some ⟨g, 0, none⟩) ∧ u6.heap.size ≤ g ∧ Has w g 26 ([.int .u64 0, .slice none 0 0])) (fun _ _ _ ⟨g, a, b, c⟩ he => ⟨g, a, b, c.flz he (by decide)⟩)] (fun w' => Below u6.heap.size u6 w') _ 9 2 chkSy7 (by kernel_rfl) (by kernel_rfl) (by kernel_rfl) (by decide) (Below.refl _ _) ?_ ?_
 ·refine lt_s (lt_s (lt_s (lt_s (lt_s (lt_s (lt_s (lt_s (lt_s (lt_0) ?_) ?_) ?_) ?_) ?_) ?_) ?_) ?_) ?_
  ·intro f w1 hS hf aA hA
   have r0 : aA.eval (.tmp 0) = .int .u64 (s : Int) := pO 0 hA (by kernel_rfl) z0
   exact fV rfl rfl (.int .u64 (s : Int)) (ex_move (.tmp 0) rfl r0) hS uS
  ·intro f w1 hS hf aA hA
   have r1 : aA.eval (.tmp 1) = .int .i64 n := pO 1 hA (by kernel_rfl) z1
   exact fV rfl rfl (.int .i64 n) (ex_move (.tmp 1) rfl r1) hS uS
  ·intro f w1 hS hf aA hA
   have r3 : aA.eval (.tmp 3) = .slice qb B.length cb := pO 3 hA (by kernel_rfl) z3
   exact fV rfl rfl (.slice qb B.length cb) (ex_move (.tmp 3) rfl r3) hS uS
  ·intro f w1 hS hf aA hA
   have r59 : aA.eval (.tmp 59) = .slice qb B.length cb := pA 59 2 hA sbSy7 (by kernel_rfl) zsz rfl (hf 2 (by decide))
   exact flw_call rfl rfl 18 #[(.tmp 59)] _ rfl #[.slice qb B.length cb] (mp1 r59) (fun w => by kernel_rfl) (fun v w' => Us w' v (B)) (row_us (HSB.out.keep (HB.out.trans (hS.mono HB.out.size))) (Nat.le_trans HLB.out (by decide))) (fun v w' hr hb => ⟨hS.trans (hb.mono hS.size), Flz.of hb, (show Us w' (updF f 3 v 3) (B) by rw [updF_self]; exact hr)⟩)
  ·intro f w1 hS hf aA hA
   have r57 : aA.eval (.tmp 57) = .int .u64 (s : Int) := pA 57 0 hA sbSy7 (by kernel_rfl) zsz rfl (hf 0 (by decide))
   have r58 : aA.eval (.tmp 58) = .int .i64 n := pA 58 1 hA sbSy7 (by kernel_rfl) zsz rfl (hf 1 (by decide))
   have hu3 : Us w1 (f 3) (B) := (hf 3 (by decide))
   have e60 : aA.eval (.tmp 60) = f 3 := pA 60 3 hA sbSy7 (by kernel_rfl) zsz rfl rfl
   exact fC rfl rfl 9 #[(.tmp 57), (.tmp 58), (.tmp 60)] _ rfl #[.int .u64 (s : Int), .int .i64 n, f 3] (mp3 r57 r58 e60) (fun w => by kernel_rfl) _ (of_as s n _ B HRB.out w1 HSD.out (HL.out.keep (HB.out.trans (hS.mono HB.out.size)) HSZ.out) (Nat.le_trans HLB.out (by decide)) hu3) hS (fun _ _ ⟨zz, a, b⟩ => ⟨zz, uS.trans a, b⟩)
  ·intro f w1 hS hf aA hA
   obtain ⟨x61, hx61, hr61⟩ := hf 4 (by decide)
   have e61 : aA.eval (.tmp 61) = .tuple #[.agg #[.int .u64 (RB.1 : Int), x61], .int .i64 (RB.2.2)] := pA 61 4 hA sbSy7 (by kernel_rfl) zsz rfl hx61
   exact flw_val rfl rfl (.tuple #[.agg #[.int .u64 (RB.1 : Int), x61], .int .i64 (RB.2.2)]) (ex_move (.tmp 61) rfl e61) hS (Flz.refl _) ⟨x61, uS, hr61⟩
  ·intro f w1 hS hf aA hA
   obtain ⟨x56, hx56, hr56⟩ := hf 5 (by decide)
   have e56 : aA.eval (.tmp 56) = .tuple #[.agg #[.int .u64 (RB.1 : Int), x56], .int .i64 (RB.2.2)] := pA 56 5 hA sbSy7 (by kernel_rfl) zsz rfl hx56
   exact flw_val rfl rfl (.agg #[.int .u64 (RB.1 : Int), x56]) (ex_extract (.tmp 56) 0 rfl e56 rfl) hS (Flz.refl _) ⟨x56, uS, hr56⟩
  ·intro f w1 hS hf aA hA
   obtain ⟨x56, hx56, hr56⟩ := hf 5 (by decide)
   have e56 : aA.eval (.tmp 56) = .tuple #[.agg #[.int .u64 (RB.1 : Int), x56], .int .i64 (RB.2.2)] := pA 56 5 hA sbSy7 (by kernel_rfl) zsz rfl hx56
   exact fV rfl rfl (.int .i64 (RB.2.2)) (ex_extract (.tmp 56) 1 rfl e56 rfl) hS uS
  ·intro f w1 hS hf aA hA
   exact flw_wp rfl rfl (fun K hK => wp_alloc_row 26 rfl (.agg #[.int .u64 0, .slice none 0 0]) (fun w => by kernel_rfl) (hK _ _ (hS.alloc hS.size _) (Flz.al _ _) ⟨_, uS, hS.size, Has.made' _ _ _ _ rfl⟩))
 intro f x7 hS hf hap
 have h0 : f 0 = .int .u64 (s : Int) := hf 0 (by decide)
 have h1 : f 1 = .int .i64 n := hf 1 (by decide)
 have h2 : f 2 = .slice qb B.length cb := hf 2 (by decide)
 obtain ⟨v7_3, h3, hu3⟩ : ∃ v, f 3 = v ∧ Us x7 v (B) := ⟨_, rfl, (hf 3 (by decide))⟩
 have HU7_3 := Lib.hid hu3
 clear hu3
 obtain ⟨v7_4, h4, -⟩ := hf 4 (by decide)
 obtain ⟨v7_5, h5, -⟩ := hf 5 (by decide)
 obtain ⟨v7_6, h6, hu6⟩ := hf 6 (by decide)
 have HU7_6 := Lib.hid hu6
 clear hu6
 have h7 : f 7 = .int .i64 (RB.2.2) := hf 7 (by decide)
 obtain ⟨b7_8, h8, hgb8, hhb8⟩ := hf 8 (by decide)
 clear hf hap
 clear zsz z0 z1 z3
 subst ha0
 simp only [slotsSy7, putAll, h0, h1, h2, h3, h4, h5, h6, h7, h8, Act.put, List.setIfInBounds_toArray, List.set_cons_zero, List.set_cons_succ]
 clear h0 h1 h2 h3 h4 h5 h6 h7 h8
 refine tl_store rfl (by kernel_rfl) 26 (.tmp 15) (.tmp 62) rfl b7_8 ([.int .u64 (RB.1 : Int), v7_6]) _ rfl rfl _ hhb8 (by kernel_rfl) rfl (tb_ones _ HU7_6.out.one) ?_
 intro u7 hp8 hbl hot
 replace hS := hS.trans (hbl _ hgb8)
 replace HU7_3 := Lib.hid (HU7_3.out.hotb hhb8 ⟨_, _, _, rfl⟩ (by decide) (hbl 0 (Nat.zero_le _)).size hot)
 replace HU7_6 := Lib.hid (HU7_6.out.hotb hhb8 ⟨_, _, _, rfl⟩ (by decide) (hbl 0 (Nat.zero_le _)).size hot)
 clear hbl hot hhb8
 try simp only [Act.put]
 refine tl_pure rfl (by kernel_rfl) (.int .i64 (RB.2.2)) (ex_assign (.tmp 63) rfl rfl) ?_
 try simp only [Act.put, List.setIfInBounds_toArray, List.set_cons_zero, List.set_cons_succ]
 refine tl_nil ?_
 replace HX1 := Lib.hid (HX1.out.keepB hS)
 replace HX_b5_8 := Lib.hid (HX_b5_8.out.keepB hS)
 replace HU5_6 := Lib.hid (HU5_6.out.keep hS)
 replace HX_b6_9 := Lib.hid (HX_b6_9.out.keepB hS)
 replace HU6_7 := Lib.hid (HU6_7.out.keep hS)
 have HBW := Lib.hid HB.out.size
 replace HB := Lib.hid (HB.out.trans (hS.mono HB.out.size))
 clear hS
 have HGb7_8 : Hid (w.heap.size ≤ b7_8) := Lib.hid (Nat.le_trans HBW.out hgb8)
 have HX_b7_8 : Hid (Has u7 b7_8 26 ([.int .u64 (RB.1 : Int), v7_6])) := Lib.hid hp8
 clear hp8 hgb8
 clear HBW
 clear HU7_3
 go_upto_region 8 with fail
 refine wp_act (fun a0 ha0 => ?_)
 have zsz : a0.tmps.size = 156 := by rw [ha0]; rfl
 have z0 : a0.eval (.tmp 0) = .int .u64 (s : Int) := by rw [ha0]; rfl
 have z1 : a0.eval (.tmp 1) = .int .i64 n := by rw [ha0]; rfl
 have z3 : a0.eval (.tmp 3) = .slice qb B.length cb := by rw [ha0]; rfl
 refine wrO [] slotsSy8 waitSy8 [Fct.val Flz 0 (.int .u64 (s : Int)), Fct.val Flz 1 (.int .i64 n), Fct.val Flz 2 (.slice qb B.length cb), Fct.obj 3 (fun v w => Us w v (B)) (fun _ _ _ h he => h.flz he), Fct.obj 4 (fun v w => Us w v (B)) (fun _ _ _ h he => h.flz he), Fct.obj 5 (fun v w => ∃ zz, v = .tuple #[.agg #[.int .u64 (RB.1 : Int), zz], .int .i64 (RB.2.2)] ∧ Cs w zz (RB.2.1)) (fun _ _ _ ⟨zz, a, b⟩ he => ⟨zz, a, b.flz he⟩), Fct.obj 6 (fun v w => ∃ zz, v = .tuple #[.agg #[.int .u64 (RB.1 : Int), zz], .int .i64 (RB.2.2)] ∧ Cs w zz (RB.2.1)) (fun _ _ _ ⟨zz, a, b⟩ he => ⟨zz, a, b.flz he⟩), Fct.obj 7 (fun v w => ∃ zz, v = .agg #[.int .u64 (RB.1 : Int), zz] ∧ Cs w zz (RB.2.1)) (fun _ _ _ ⟨zz, a, b⟩ he => ⟨zz, a, b.flz he⟩), Fct.val Flz 8 (.int .i64 (RB.2.2)), Fct.obj 9 (fun v w => ∃ g, v = .pointer (some ⟨g, 0, none⟩) ∧ u7.heap.size ≤ g ∧ Has w g 37 ([.int .u64 0, .slice none 0 0])) (fun _ _ _ ⟨g, a, b, c⟩ he => ⟨g, a, b, c.flz he (by decide)⟩)] (fun w' => Below u7.heap.size u7 w') _ 10 2 chkSy8 (by kernel_rfl) (by kernel_rfl) (by kernel_rfl) (by decide) (Below.refl _ _) ?_ ?_
 ·refine lt_s (lt_s (lt_s (lt_s (lt_s (lt_s (lt_s (lt_s (lt_s (lt_s (lt_0) ?_) ?_) ?_) ?_) ?_) ?_) ?_) ?_) ?_) ?_
  ·intro f w1 hS hf aA hA
   have r0 : aA.eval (.tmp 0) = .int .u64 (s : Int) := pO 0 hA (by kernel_rfl) z0
   exact fV rfl rfl (.int .u64 (s : Int)) (ex_move (.tmp 0) rfl r0) hS uS
  ·intro f w1 hS hf aA hA
   have r1 : aA.eval (.tmp 1) = .int .i64 n := pO 1 hA (by kernel_rfl) z1
   exact fV rfl rfl (.int .i64 n) (ex_move (.tmp 1) rfl r1) hS uS
  ·intro f w1 hS hf aA hA
   have r3 : aA.eval (.tmp 3) = .slice qb B.length cb := pO 3 hA (by kernel_rfl) z3
   exact fV rfl rfl (.slice qb B.length cb) (ex_move (.tmp 3) rfl r3) hS uS
  ·intro f w1 hS hf aA hA
   have r67 : aA.eval (.tmp 67) = .slice qb B.length cb := pA 67 2 hA sbSy8 (by kernel_rfl) zsz rfl (hf 2 (by decide))
   exact flw_call rfl rfl 18 #[(.tmp 67)] _ rfl #[.slice qb B.length cb] (mp1 r67) (fun w => by kernel_rfl) (fun v w' => Us w' v (B)) (row_us (HSB.out.keep (HB.out.trans (hS.mono HB.out.size))) (Nat.le_trans HLB.out (by decide))) (fun v w' hr hb => ⟨hS.trans (hb.mono hS.size), Flz.of hb, (show Us w' (updF f 3 v 3) (B) by rw [updF_self]; exact hr)⟩)
  ·intro f w1 hS hf aA hA
   have hu3 : Us w1 (f 3) (B) := (hf 3 (by decide))
   have e68 : aA.eval (.tmp 68) = f 3 := pA 68 3 hA sbSy8 (by kernel_rfl) zsz rfl rfl
   exact flw_call rfl rfl 20 #[(.tmp 68)] _ rfl #[f 3] (mp1 e68) (fun w => by kernel_rfl) (fun v w' => Us w' v (B)) (own_us hu3 (Nat.le_trans HLB.out (by decide))) (fun v w' hr hb => ⟨hS.trans (hb.mono hS.size), Flz.of hb, (show Us w' (updF f 4 v 4) (B) by rw [updF_self]; exact hr)⟩)
  ·intro f w1 hS hf aA hA
   have r65 : aA.eval (.tmp 65) = .int .u64 (s : Int) := pA 65 0 hA sbSy8 (by kernel_rfl) zsz rfl (hf 0 (by decide))
   have r66 : aA.eval (.tmp 66) = .int .i64 n := pA 66 1 hA sbSy8 (by kernel_rfl) zsz rfl (hf 1 (by decide))
   have hu4 : Us w1 (f 4) (B) := (hf 4 (by decide))
   have e69 : aA.eval (.tmp 69) = f 4 := pA 69 4 hA sbSy8 (by kernel_rfl) zsz rfl rfl
   exact fC rfl rfl 19 #[(.tmp 65), (.tmp 66), (.tmp 69)] _ rfl #[.int .u64 (s : Int), .int .i64 n, f 4] (mp3 r65 r66 e69) (fun w => by kernel_rfl) _ (rof_as s n _ B HRB.out w1 HSD.out  (Nat.le_trans HLB.out (by decide)) hu4) hS (fun _ _ ⟨zz, a, b⟩ => ⟨zz, uS.trans a, b⟩)
  ·intro f w1 hS hf aA hA
   obtain ⟨x70, hx70, hr70⟩ := hf 5 (by decide)
   have e70 : aA.eval (.tmp 70) = .tuple #[.agg #[.int .u64 (RB.1 : Int), x70], .int .i64 (RB.2.2)] := pA 70 5 hA sbSy8 (by kernel_rfl) zsz rfl hx70
   exact flw_val rfl rfl (.tuple #[.agg #[.int .u64 (RB.1 : Int), x70], .int .i64 (RB.2.2)]) (ex_move (.tmp 70) rfl e70) hS (Flz.refl _) ⟨x70, uS, hr70⟩
  ·intro f w1 hS hf aA hA
   obtain ⟨x64, hx64, hr64⟩ := hf 6 (by decide)
   have e64 : aA.eval (.tmp 64) = .tuple #[.agg #[.int .u64 (RB.1 : Int), x64], .int .i64 (RB.2.2)] := pA 64 6 hA sbSy8 (by kernel_rfl) zsz rfl hx64
   exact flw_val rfl rfl (.agg #[.int .u64 (RB.1 : Int), x64]) (ex_extract (.tmp 64) 0 rfl e64 rfl) hS (Flz.refl _) ⟨x64, uS, hr64⟩
  ·intro f w1 hS hf aA hA
   obtain ⟨x64, hx64, hr64⟩ := hf 6 (by decide)
   have e64 : aA.eval (.tmp 64) = .tuple #[.agg #[.int .u64 (RB.1 : Int), x64], .int .i64 (RB.2.2)] := pA 64 6 hA sbSy8 (by kernel_rfl) zsz rfl hx64
   exact fV rfl rfl (.int .i64 (RB.2.2)) (ex_extract (.tmp 64) 1 rfl e64 rfl) hS uS
  ·intro f w1 hS hf aA hA
   exact flw_wp rfl rfl (fun K hK => wp_alloc_row 37 rfl (.agg #[.int .u64 0, .slice none 0 0]) (fun w => by kernel_rfl) (hK _ _ (hS.alloc hS.size _) (Flz.al _ _) ⟨_, uS, hS.size, Has.made' _ _ _ _ rfl⟩))
 intro f x8 hS hf hap
 have h0 : f 0 = .int .u64 (s : Int) := hf 0 (by decide)
 have h1 : f 1 = .int .i64 n := hf 1 (by decide)
 have h2 : f 2 = .slice qb B.length cb := hf 2 (by decide)
 obtain ⟨v8_3, h3, hu3⟩ : ∃ v, f 3 = v ∧ Us x8 v (B) := ⟨_, rfl, (hf 3 (by decide))⟩
 have HU8_3 := Lib.hid hu3
 clear hu3
 obtain ⟨v8_4, h4, hu4⟩ : ∃ v, f 4 = v ∧ Us x8 v (B) := ⟨_, rfl, (hf 4 (by decide))⟩
 have HU8_4 := Lib.hid hu4
 clear hu4
 obtain ⟨v8_5, h5, -⟩ := hf 5 (by decide)
 obtain ⟨v8_6, h6, -⟩ := hf 6 (by decide)
 obtain ⟨v8_7, h7, hu7⟩ := hf 7 (by decide)
 have HU8_7 := Lib.hid hu7
 clear hu7
 have h8 : f 8 = .int .i64 (RB.2.2) := hf 8 (by decide)
 obtain ⟨b8_9, h9, hgb9, hhb9⟩ := hf 9 (by decide)
 clear hf hap
 clear zsz z0 z1 z3
 subst ha0
 simp only [slotsSy8, putAll, h0, h1, h2, h3, h4, h5, h6, h7, h8, h9, Act.put, List.setIfInBounds_toArray, List.set_cons_zero, List.set_cons_succ]
 clear h0 h1 h2 h3 h4 h5 h6 h7 h8 h9
 refine tl_store rfl (by kernel_rfl) 37 (.tmp 17) (.tmp 71) rfl b8_9 ([.int .u64 (RB.1 : Int), v8_7]) _ rfl rfl _ hhb9 (by kernel_rfl) rfl (tb_ones _ HU8_7.out.one) ?_
 intro u8 hp9 hbl hot
 replace hS := hS.trans (hbl _ hgb9)
 replace HU8_3 := Lib.hid (HU8_3.out.hotb hhb9 ⟨_, _, _, rfl⟩ (by decide) (hbl 0 (Nat.zero_le _)).size hot)
 replace HU8_4 := Lib.hid (HU8_4.out.hotb hhb9 ⟨_, _, _, rfl⟩ (by decide) (hbl 0 (Nat.zero_le _)).size hot)
 replace HU8_7 := Lib.hid (HU8_7.out.hotb hhb9 ⟨_, _, _, rfl⟩ (by decide) (hbl 0 (Nat.zero_le _)).size hot)
 clear hbl hot hhb9
 try simp only [Act.put]
 refine tl_pure rfl (by kernel_rfl) (.int .i64 (RB.2.2)) (ex_assign (.tmp 72) rfl rfl) ?_
 try simp only [Act.put, List.setIfInBounds_toArray, List.set_cons_zero, List.set_cons_succ]
 refine tl_nil ?_
 replace HX1 := Lib.hid (HX1.out.keepB hS)
 replace HX_b5_8 := Lib.hid (HX_b5_8.out.keepB hS)
 replace HU5_6 := Lib.hid (HU5_6.out.keep hS)
 replace HX_b6_9 := Lib.hid (HX_b6_9.out.keepB hS)
 replace HU6_7 := Lib.hid (HU6_7.out.keep hS)
 replace HX_b7_8 := Lib.hid (HX_b7_8.out.keepB hS)
 replace HU7_6 := Lib.hid (HU7_6.out.keep hS)
 have HBW := Lib.hid HB.out.size
 replace HB := Lib.hid (HB.out.trans (hS.mono HB.out.size))
 clear hS
 have HGb8_9 : Hid (w.heap.size ≤ b8_9) := Lib.hid (Nat.le_trans HBW.out hgb9)
 have HX_b8_9 : Hid (Has u8 b8_9 37 ([.int .u64 (RB.1 : Int), v8_7])) := Lib.hid hp9
 clear hp9 hgb9
 clear HBW
 clear HU8_3 HU8_4
 go_upto_region 9 with fail
 refine wp_act (fun a0 ha0 => ?_)
 have zsz : a0.tmps.size = 156 := by rw [ha0]; rfl
 have z11 : a0.eval (.tmp 11) = .pointer (some ⟨b5_8, 0, none⟩) := by rw [ha0]; rfl
 have z15 : a0.eval (.tmp 15) = .pointer (some ⟨b7_8, 0, none⟩) := by rw [ha0]; rfl
 refine wrO [] slotsSy9 waitSy9 [Fct.val Flz 0 (.agg #[.int .u64 (RA.1 : Int), v5_6]), Fct.val Flz 1 (.agg #[.int .u64 (RB.1 : Int), v7_6]), Fct.obj 2 (fun v w => ∃ zz, v = .tuple #[.agg #[.int .u64 (RM.1 : Int), zz], .int .i64 (RM.2.2)] ∧ Cs w zz (RM.2.1)) (fun _ _ _ ⟨zz, a, b⟩ he => ⟨zz, a, b.flz he⟩), Fct.obj 3 (fun v w => ∃ zz, v = .tuple #[.agg #[.int .u64 (RM.1 : Int), zz], .int .i64 (RM.2.2)] ∧ Cs w zz (RM.2.1)) (fun _ _ _ ⟨zz, a, b⟩ he => ⟨zz, a, b.flz he⟩), Fct.obj 4 (fun v w => ∃ zz, v = .agg #[.int .u64 (RM.1 : Int), zz] ∧ Cs w zz (RM.2.1)) (fun _ _ _ ⟨zz, a, b⟩ he => ⟨zz, a, b.flz he⟩), Fct.val Flz 5 (.int .i64 (RM.2.2)), Fct.obj 6 (fun v w => ∃ g, v = .pointer (some ⟨g, 0, none⟩) ∧ u8.heap.size ≤ g ∧ Has w g 26 ([.int .u64 0, .slice none 0 0])) (fun _ _ _ ⟨g, a, b, c⟩ he => ⟨g, a, b, c.flz he (by decide)⟩)] (fun w' => Below u8.heap.size u8 w') _ 7 2 chkSy9 (by kernel_rfl) (by kernel_rfl) (by kernel_rfl) (by decide) (Below.refl _ _) ?_ ?_
 ·refine lt_s (lt_s (lt_s (lt_s (lt_s (lt_s (lt_s (lt_0) ?_) ?_) ?_) ?_) ?_) ?_) ?_
  ·intro f w1 hS hf aA hA
   have r11 : aA.eval (.tmp 11) = .pointer (some ⟨b5_8, 0, none⟩) := pO 11 hA (by kernel_rfl) z11
   exact fV rfl rfl (.agg #[.int .u64 (RA.1 : Int), v5_6]) (ex_loadR 26 (.tmp 11) rfl ⟨b5_8, 0, none⟩ r11 (fun _ => by kernel_rfl) [.int .u64 (RA.1 : Int), v5_6] (by kernel_rfl) ((HX_b5_8.out.keepB hS).part [.int .u64 (RA.1 : Int), v5_6] 0 (fun j u hu => by rw [Nat.zero_add]; exact hu))) hS uS
  ·intro f w1 hS hf aA hA
   have r15 : aA.eval (.tmp 15) = .pointer (some ⟨b7_8, 0, none⟩) := pO 15 hA (by kernel_rfl) z15
   exact fV rfl rfl (.agg #[.int .u64 (RB.1 : Int), v7_6]) (ex_loadR 26 (.tmp 15) rfl ⟨b7_8, 0, none⟩ r15 (fun _ => by kernel_rfl) [.int .u64 (RB.1 : Int), v7_6] (by kernel_rfl) ((HX_b7_8.out.keepB hS).part [.int .u64 (RB.1 : Int), v7_6] 0 (fun j u hu => by rw [Nat.zero_add]; exact hu))) hS uS
  ·intro f w1 hS hf aA hA
   have r74 : aA.eval (.tmp 74) = .agg #[.int .u64 (RA.1 : Int), v5_6] := pA 74 0 hA sbSy9 (by kernel_rfl) zsz rfl (hf 0 (by decide))
   have r75 : aA.eval (.tmp 75) = .agg #[.int .u64 (RB.1 : Int), v7_6] := pA 75 1 hA sbSy9 (by kernel_rfl) zsz rfl (hf 1 (by decide))
   exact fC rfl rfl 10 #[(.tmp 74), (.tmp 75)] _ rfl #[.agg #[.int .u64 (RA.1 : Int), v5_6], .agg #[.int .u64 (RB.1 : Int), v7_6]] (mp2 r74 r75) (fun w => by kernel_rfl) _ (minus_as _ _ _ _ _ _ HRM.out HST.out.1 HST.out.2 w1 HSA5.out (HU5_6.out.keep hS) (HU7_6.out.keep hS)) hS (fun _ _ ⟨zz, a, b⟩ => ⟨zz, uS.trans a, b⟩)
  ·intro f w1 hS hf aA hA
   obtain ⟨x76, hx76, hr76⟩ := hf 2 (by decide)
   have e76 : aA.eval (.tmp 76) = .tuple #[.agg #[.int .u64 (RM.1 : Int), x76], .int .i64 (RM.2.2)] := pA 76 2 hA sbSy9 (by kernel_rfl) zsz rfl hx76
   exact flw_val rfl rfl (.tuple #[.agg #[.int .u64 (RM.1 : Int), x76], .int .i64 (RM.2.2)]) (ex_move (.tmp 76) rfl e76) hS (Flz.refl _) ⟨x76, uS, hr76⟩
  ·intro f w1 hS hf aA hA
   obtain ⟨x73, hx73, hr73⟩ := hf 3 (by decide)
   have e73 : aA.eval (.tmp 73) = .tuple #[.agg #[.int .u64 (RM.1 : Int), x73], .int .i64 (RM.2.2)] := pA 73 3 hA sbSy9 (by kernel_rfl) zsz rfl hx73
   exact flw_val rfl rfl (.agg #[.int .u64 (RM.1 : Int), x73]) (ex_extract (.tmp 73) 0 rfl e73 rfl) hS (Flz.refl _) ⟨x73, uS, hr73⟩
  ·intro f w1 hS hf aA hA
   obtain ⟨x73, hx73, hr73⟩ := hf 3 (by decide)
   have e73 : aA.eval (.tmp 73) = .tuple #[.agg #[.int .u64 (RM.1 : Int), x73], .int .i64 (RM.2.2)] := pA 73 3 hA sbSy9 (by kernel_rfl) zsz rfl hx73
   exact fV rfl rfl (.int .i64 (RM.2.2)) (ex_extract (.tmp 73) 1 rfl e73 rfl) hS uS
  ·intro f w1 hS hf aA hA
   exact flw_wp rfl rfl (fun K hK => wp_alloc_row 26 rfl (.agg #[.int .u64 0, .slice none 0 0]) (fun w => by kernel_rfl) (hK _ _ (hS.alloc hS.size _) (Flz.al _ _) ⟨_, uS, hS.size, Has.made' _ _ _ _ rfl⟩))
 intro f x9 hS hf hap
 have h0 : f 0 = .agg #[.int .u64 (RA.1 : Int), v5_6] := hf 0 (by decide)
 have h1 : f 1 = .agg #[.int .u64 (RB.1 : Int), v7_6] := hf 1 (by decide)
 obtain ⟨v9_2, h2, -⟩ := hf 2 (by decide)
 obtain ⟨v9_3, h3, -⟩ := hf 3 (by decide)
 obtain ⟨v9_4, h4, hu4⟩ := hf 4 (by decide)
 have HU9_4 := Lib.hid hu4
 clear hu4
 have h5 : f 5 = .int .i64 (RM.2.2) := hf 5 (by decide)
 obtain ⟨b9_6, h6, hgb6, hhb6⟩ := hf 6 (by decide)
 clear hf hap
 clear zsz z11 z15
 subst ha0
 simp only [slotsSy9, putAll, h0, h1, h2, h3, h4, h5, h6, Act.put, List.setIfInBounds_toArray, List.set_cons_zero, List.set_cons_succ]
 clear h0 h1 h2 h3 h4 h5 h6
 refine tl_store rfl (by kernel_rfl) 26 (.tmp 19) (.tmp 77) rfl b9_6 ([.int .u64 (RM.1 : Int), v9_4]) _ rfl rfl _ hhb6 (by kernel_rfl) rfl (tb_ones _ HU9_4.out.one) ?_
 intro u9 hp6 hbl hot
 replace hS := hS.trans (hbl _ hgb6)
 replace HU9_4 := Lib.hid (HU9_4.out.hotb hhb6 ⟨_, _, _, rfl⟩ (by decide) (hbl 0 (Nat.zero_le _)).size hot)
 clear hbl hot hhb6
 try simp only [Act.put]
 refine tl_pure rfl (by kernel_rfl) (.int .i64 (RM.2.2)) (ex_assign (.tmp 78) rfl rfl) ?_
 try simp only [Act.put, List.setIfInBounds_toArray, List.set_cons_zero, List.set_cons_succ]
 refine tl_nil ?_
 replace HX1 := Lib.hid (HX1.out.keepB hS)
 replace HX_b5_8 := Lib.hid (HX_b5_8.out.keepB hS)
 replace HU5_6 := Lib.hid (HU5_6.out.keep hS)
 replace HX_b6_9 := Lib.hid (HX_b6_9.out.keepB hS)
 replace HU6_7 := Lib.hid (HU6_7.out.keep hS)
 replace HX_b7_8 := Lib.hid (HX_b7_8.out.keepB hS)
 replace HU7_6 := Lib.hid (HU7_6.out.keep hS)
 replace HX_b8_9 := Lib.hid (HX_b8_9.out.keepB hS)
 replace HU8_7 := Lib.hid (HU8_7.out.keep hS)
 have HBW := Lib.hid HB.out.size
 replace HB := Lib.hid (HB.out.trans (hS.mono HB.out.size))
 clear hS
 have HGb9_6 : Hid (w.heap.size ≤ b9_6) := Lib.hid (Nat.le_trans HBW.out hgb6)
 have HX_b9_6 : Hid (Has u9 b9_6 26 ([.int .u64 (RM.1 : Int), v9_4])) := Lib.hid hp6
 clear hp6 hgb6
 clear HBW
 go_upto_region 10 with fail
 refine wp_act (fun a0 ha0 => ?_)
 have zsz : a0.tmps.size = 156 := by rw [ha0]; rfl
 have z13 : a0.eval (.tmp 13) = .pointer (some ⟨b6_9, 0, none⟩) := by rw [ha0]; rfl
 have z17 : a0.eval (.tmp 17) = .pointer (some ⟨b8_9, 0, none⟩) := by rw [ha0]; rfl
 refine wrO [] slotsSy10 waitSy10 [Fct.val Flz 0 (.agg #[.int .u64 (RA.1 : Int), v6_7]), Fct.val Flz 1 (.agg #[.int .u64 (RB.1 : Int), v8_7]), Fct.obj 2 (fun v w => ∃ zz, v = .tuple #[.agg #[.int .u64 (RM.1 : Int), zz], .int .i64 (RM.2.2)] ∧ Cs w zz (RM.2.1)) (fun _ _ _ ⟨zz, a, b⟩ he => ⟨zz, a, b.flz he⟩), Fct.obj 3 (fun v w => ∃ zz, v = .tuple #[.agg #[.int .u64 (RM.1 : Int), zz], .int .i64 (RM.2.2)] ∧ Cs w zz (RM.2.1)) (fun _ _ _ ⟨zz, a, b⟩ he => ⟨zz, a, b.flz he⟩), Fct.obj 4 (fun v w => ∃ zz, v = .agg #[.int .u64 (RM.1 : Int), zz] ∧ Cs w zz (RM.2.1)) (fun _ _ _ ⟨zz, a, b⟩ he => ⟨zz, a, b.flz he⟩), Fct.val Flz 5 (.int .i64 (RM.2.2)), Fct.obj 6 (fun v w => ∃ g, v = .pointer (some ⟨g, 0, none⟩) ∧ u9.heap.size ≤ g ∧ Has w g 37 ([.int .u64 0, .slice none 0 0])) (fun _ _ _ ⟨g, a, b, c⟩ he => ⟨g, a, b, c.flz he (by decide)⟩)] (fun w' => Below u9.heap.size u9 w') _ 7 2 chkSy10 (by kernel_rfl) (by kernel_rfl) (by kernel_rfl) (by decide) (Below.refl _ _) ?_ ?_
 ·refine lt_s (lt_s (lt_s (lt_s (lt_s (lt_s (lt_s (lt_0) ?_) ?_) ?_) ?_) ?_) ?_) ?_
  ·intro f w1 hS hf aA hA
   have r13 : aA.eval (.tmp 13) = .pointer (some ⟨b6_9, 0, none⟩) := pO 13 hA (by kernel_rfl) z13
   exact fV rfl rfl (.agg #[.int .u64 (RA.1 : Int), v6_7]) (ex_loadR 37 (.tmp 13) rfl ⟨b6_9, 0, none⟩ r13 (fun _ => by kernel_rfl) [.int .u64 (RA.1 : Int), v6_7] (by kernel_rfl) ((HX_b6_9.out.keepB hS).part [.int .u64 (RA.1 : Int), v6_7] 0 (fun j u hu => by rw [Nat.zero_add]; exact hu))) hS uS
  ·intro f w1 hS hf aA hA
   have r17 : aA.eval (.tmp 17) = .pointer (some ⟨b8_9, 0, none⟩) := pO 17 hA (by kernel_rfl) z17
   exact fV rfl rfl (.agg #[.int .u64 (RB.1 : Int), v8_7]) (ex_loadR 37 (.tmp 17) rfl ⟨b8_9, 0, none⟩ r17 (fun _ => by kernel_rfl) [.int .u64 (RB.1 : Int), v8_7] (by kernel_rfl) ((HX_b8_9.out.keepB hS).part [.int .u64 (RB.1 : Int), v8_7] 0 (fun j u hu => by rw [Nat.zero_add]; exact hu))) hS uS
  ·intro f w1 hS hf aA hA
   have r80 : aA.eval (.tmp 80) = .agg #[.int .u64 (RA.1 : Int), v6_7] := pA 80 0 hA sbSy10 (by kernel_rfl) zsz rfl (hf 0 (by decide))
   have r81 : aA.eval (.tmp 81) = .agg #[.int .u64 (RB.1 : Int), v8_7] := pA 81 1 hA sbSy10 (by kernel_rfl) zsz rfl (hf 1 (by decide))
   exact fC rfl rfl 21 #[(.tmp 80), (.tmp 81)] _ rfl #[.agg #[.int .u64 (RA.1 : Int), v6_7], .agg #[.int .u64 (RB.1 : Int), v8_7]] (mp2 r80 r81) (fun w => by kernel_rfl) _ (rminus_as _ _ _ _ _ _ HRM.out HST.out.1 HST.out.2 w1 HSA5.out (HU6_7.out.keep hS) (HU8_7.out.keep hS)) hS (fun _ _ ⟨zz, a, b⟩ => ⟨zz, uS.trans a, b⟩)
  ·intro f w1 hS hf aA hA
   obtain ⟨x82, hx82, hr82⟩ := hf 2 (by decide)
   have e82 : aA.eval (.tmp 82) = .tuple #[.agg #[.int .u64 (RM.1 : Int), x82], .int .i64 (RM.2.2)] := pA 82 2 hA sbSy10 (by kernel_rfl) zsz rfl hx82
   exact flw_val rfl rfl (.tuple #[.agg #[.int .u64 (RM.1 : Int), x82], .int .i64 (RM.2.2)]) (ex_move (.tmp 82) rfl e82) hS (Flz.refl _) ⟨x82, uS, hr82⟩
  ·intro f w1 hS hf aA hA
   obtain ⟨x79, hx79, hr79⟩ := hf 3 (by decide)
   have e79 : aA.eval (.tmp 79) = .tuple #[.agg #[.int .u64 (RM.1 : Int), x79], .int .i64 (RM.2.2)] := pA 79 3 hA sbSy10 (by kernel_rfl) zsz rfl hx79
   exact flw_val rfl rfl (.agg #[.int .u64 (RM.1 : Int), x79]) (ex_extract (.tmp 79) 0 rfl e79 rfl) hS (Flz.refl _) ⟨x79, uS, hr79⟩
  ·intro f w1 hS hf aA hA
   obtain ⟨x79, hx79, hr79⟩ := hf 3 (by decide)
   have e79 : aA.eval (.tmp 79) = .tuple #[.agg #[.int .u64 (RM.1 : Int), x79], .int .i64 (RM.2.2)] := pA 79 3 hA sbSy10 (by kernel_rfl) zsz rfl hx79
   exact fV rfl rfl (.int .i64 (RM.2.2)) (ex_extract (.tmp 79) 1 rfl e79 rfl) hS uS
  ·intro f w1 hS hf aA hA
   exact flw_wp rfl rfl (fun K hK => wp_alloc_row 37 rfl (.agg #[.int .u64 0, .slice none 0 0]) (fun w => by kernel_rfl) (hK _ _ (hS.alloc hS.size _) (Flz.al _ _) ⟨_, uS, hS.size, Has.made' _ _ _ _ rfl⟩))
 intro f x10 hS hf hap
 have h0 : f 0 = .agg #[.int .u64 (RA.1 : Int), v6_7] := hf 0 (by decide)
 have h1 : f 1 = .agg #[.int .u64 (RB.1 : Int), v8_7] := hf 1 (by decide)
 obtain ⟨v10_2, h2, -⟩ := hf 2 (by decide)
 obtain ⟨v10_3, h3, -⟩ := hf 3 (by decide)
 obtain ⟨v10_4, h4, hu4⟩ := hf 4 (by decide)
 have HU10_4 := Lib.hid hu4
 clear hu4
 have h5 : f 5 = .int .i64 (RM.2.2) := hf 5 (by decide)
 obtain ⟨b10_6, h6, hgb6, hhb6⟩ := hf 6 (by decide)
 clear hf hap
 clear zsz z13 z17
 subst ha0
 simp only [slotsSy10, putAll, h0, h1, h2, h3, h4, h5, h6, Act.put, List.setIfInBounds_toArray, List.set_cons_zero, List.set_cons_succ]
 clear h0 h1 h2 h3 h4 h5 h6
 refine tl_store rfl (by kernel_rfl) 37 (.tmp 21) (.tmp 83) rfl b10_6 ([.int .u64 (RM.1 : Int), v10_4]) _ rfl rfl _ hhb6 (by kernel_rfl) rfl (tb_ones _ HU10_4.out.one) ?_
 intro u10 hp6 hbl hot
 replace hS := hS.trans (hbl _ hgb6)
 replace HU10_4 := Lib.hid (HU10_4.out.hotb hhb6 ⟨_, _, _, rfl⟩ (by decide) (hbl 0 (Nat.zero_le _)).size hot)
 clear hbl hot hhb6
 try simp only [Act.put]
 refine tl_pure rfl (by kernel_rfl) (.int .i64 (RM.2.2)) (ex_assign (.tmp 84) rfl rfl) ?_
 try simp only [Act.put, List.setIfInBounds_toArray, List.set_cons_zero, List.set_cons_succ]
 refine tl_nil ?_
 replace HX1 := Lib.hid (HX1.out.keepB hS)
 replace HX_b5_8 := Lib.hid (HX_b5_8.out.keepB hS)
 replace HU5_6 := Lib.hid (HU5_6.out.keep hS)
 replace HX_b6_9 := Lib.hid (HX_b6_9.out.keepB hS)
 replace HU6_7 := Lib.hid (HU6_7.out.keep hS)
 replace HX_b7_8 := Lib.hid (HX_b7_8.out.keepB hS)
 replace HU7_6 := Lib.hid (HU7_6.out.keep hS)
 replace HX_b8_9 := Lib.hid (HX_b8_9.out.keepB hS)
 replace HU8_7 := Lib.hid (HU8_7.out.keep hS)
 replace HX_b9_6 := Lib.hid (HX_b9_6.out.keepB hS)
 replace HU9_4 := Lib.hid (HU9_4.out.keep hS)
 have HBW := Lib.hid HB.out.size
 replace HB := Lib.hid (HB.out.trans (hS.mono HB.out.size))
 clear hS
 have HGb10_6 : Hid (w.heap.size ≤ b10_6) := Lib.hid (Nat.le_trans HBW.out hgb6)
 have HX_b10_6 : Hid (Has u10 b10_6 37 ([.int .u64 (RM.1 : Int), v10_4])) := Lib.hid hp6
 clear hp6 hgb6
 clear HBW
 go_upto_region 11 with fail
 have HST : Hid (Below u10.heap.size u10 u10.drew) := Lib.hid (Below.refl _ _).drew
 replace HX1 := Lib.hid (HX1.out.keepB HST.out)
 replace HX_b5_8 := Lib.hid (HX_b5_8.out.keepB HST.out)
 replace HU5_6 := Lib.hid (HU5_6.out.keep HST.out)
 replace HX_b6_9 := Lib.hid (HX_b6_9.out.keepB HST.out)
 replace HU6_7 := Lib.hid (HU6_7.out.keep HST.out)
 replace HX_b7_8 := Lib.hid (HX_b7_8.out.keepB HST.out)
 replace HU7_6 := Lib.hid (HU7_6.out.keep HST.out)
 replace HX_b8_9 := Lib.hid (HX_b8_9.out.keepB HST.out)
 replace HU8_7 := Lib.hid (HU8_7.out.keep HST.out)
 replace HX_b9_6 := Lib.hid (HX_b9_6.out.keepB HST.out)
 replace HU9_4 := Lib.hid (HU9_4.out.keep HST.out)
 replace HX_b10_6 := Lib.hid (HX_b10_6.out.keepB HST.out)
 replace HU10_4 := Lib.hid (HU10_4.out.keep HST.out)
 replace HB := Lib.hid (HB.out.trans (HST.out.mono HB.out.size))
 clear HST
 refine wp_act (fun a0 ha0 => ?_)
 have zsz : a0.tmps.size = 156 := by rw [ha0]; rfl
 have z12 : a0.eval (.tmp 12) = .int .i64 (RA.2.2) := by rw [ha0]; rfl
 have z14 : a0.eval (.tmp 14) = .int .i64 (RA.2.2) := by rw [ha0]; rfl
 have z16 : a0.eval (.tmp 16) = .int .i64 (RB.2.2) := by rw [ha0]; rfl
 have z18 : a0.eval (.tmp 18) = .int .i64 (RB.2.2) := by rw [ha0]; rfl
 have z20 : a0.eval (.tmp 20) = .int .i64 (RM.2.2) := by rw [ha0]; rfl
 have z22 : a0.eval (.tmp 22) = .int .i64 (RM.2.2) := by rw [ha0]; rfl
 have z11 : a0.eval (.tmp 11) = .pointer (some ⟨b5_8, 0, none⟩) := by rw [ha0]; rfl
 have z13 : a0.eval (.tmp 13) = .pointer (some ⟨b6_9, 0, none⟩) := by rw [ha0]; rfl
 have z19 : a0.eval (.tmp 19) = .pointer (some ⟨b9_6, 0, none⟩) := by rw [ha0]; rfl
 have z21 : a0.eval (.tmp 21) = .pointer (some ⟨b10_6, 0, none⟩) := by rw [ha0]; rfl
 refine wrD [] slotsSy11 waitSy11 [Fct.val Flz 0 (.int .i64 (RA.2.2)), Fct.val Flz 1 (.int .i64 (RA.2.2)), Fct.val Flz 2 (.bool false), Fct.val Flz 3 (.bool false), Fct.val Flz 4 (.int .i64 (RB.2.2)), Fct.val Flz 5 (.int .i64 (RB.2.2)), Fct.val Flz 6 (.bool false), Fct.val Flz 7 (.bool false), Fct.val Flz 8 (.bool false), Fct.val Flz 9 (.int .i64 (RM.2.2)), Fct.val Flz 10 (.int .i64 (RM.2.2)), Fct.val Flz 11 (.bool false), Fct.val Flz 12 (.bool false), Fct.val Flz 13 (.bool false), Fct.val Flz 14 (.agg #[.int .u64 (RA.1 : Int), v5_6]), Fct.obj 15 (fun v w => ∃ zz, v = .agg #[.int .u64 (RA.1 : Int), zz] ∧ Cs w zz (RA.2.1)) (fun _ _ _ ⟨zz, a, b⟩ he => ⟨zz, a, b.flz he⟩), Fct.val Flz 16 (.agg #[.int .u64 (RA.1 : Int), v6_7]), Fct.val Flz 17 (.bool true), Fct.val Flz 18 (.bool false), Fct.val Flz 19 (.bool false), Fct.val Flz 20 (.bool false), Fct.val Flz 21 (.agg #[.int .u64 (RM.1 : Int), v9_4]), Fct.obj 22 (fun v w => ∃ zz, v = .agg #[.int .u64 (RM.1 : Int), zz] ∧ Cs w zz (RM.2.1)) (fun _ _ _ ⟨zz, a, b⟩ he => ⟨zz, a, b.flz he⟩), Fct.val Flz 23 (.agg #[.int .u64 (RM.1 : Int), v10_4]), Fct.val Flz 24 (.bool true), Fct.val Flz 25 (.bool false), Fct.val Flz 26 (.bool false)] (fun w' => Below u10.drew.heap.size u10.drew w') _ 27 0 chkSy11 (by kernel_rfl) (by kernel_rfl) (by kernel_rfl) (by kernel_rfl) (by decide) (Below.refl _ _) ?_ ?_
 ·refine lt_s (lt_s (lt_s (lt_s (lt_s (lt_s (lt_s (lt_s (lt_s (lt_s (lt_s (lt_s (lt_s (lt_s (lt_s (lt_s (lt_s (lt_s (lt_s (lt_s (lt_s (lt_s (lt_s (lt_s (lt_s (lt_s (lt_s (lt_0) ?_) ?_) ?_) ?_) ?_) ?_) ?_) ?_) ?_) ?_) ?_) ?_) ?_) ?_) ?_) ?_) ?_) ?_) ?_) ?_) ?_) ?_) ?_) ?_) ?_) ?_) ?_
  ·intro f w1 hS hf aA hA
   have r12 : aA.eval (.tmp 12) = .int .i64 (RA.2.2) := pO 12 hA (by kernel_rfl) z12
   exact fV rfl rfl (.int .i64 (RA.2.2)) (ex_move (.tmp 12) rfl r12) hS uS
  ·intro f w1 hS hf aA hA
   have r14 : aA.eval (.tmp 14) = .int .i64 (RA.2.2) := pO 14 hA (by kernel_rfl) z14
   exact fV rfl rfl (.int .i64 (RA.2.2)) (ex_move (.tmp 14) rfl r14) hS uS
  ·intro f w1 hS hf aA hA
   have r85 : aA.eval (.tmp 85) = .int .i64 (RA.2.2) := pA 85 0 hA sbSy11 (by kernel_rfl) zsz rfl (hf 0 (by decide))
   have r86 : aA.eval (.tmp 86) = .int .i64 (RA.2.2) := pA 86 1 hA sbSy11 (by kernel_rfl) zsz rfl (hf 1 (by decide))
   exact fV rfl rfl (.bool false) (Eq.trans (ex_int .neq _ _ (.tmp 85) (.tmp 86) rfl .i64 RA.2.2 RA.2.2 r85 r86 (.bool (RA.2.2 != RA.2.2)) (fun _ => rfl)) (by rw [(bne_self_eq_false RA.2.2)])) hS uS
  ·intro f w1 hS hf aA hA
   have r87 : aA.eval (.tmp 87) = .bool false := pA 87 2 hA sbSy11 (by kernel_rfl) zsz rfl (hf 2 (by decide))
   exact fV rfl rfl (.bool false) (ex_move (.tmp 87) rfl r87) hS uS
  ·intro f w1 hS hf aA hA
   have t88 : aA.tmps[88]? = some (.bool false) := pG 88 3 hA sbSy11 (by kernel_rfl) zsz rfl (hf 3 (by decide))
   have r16 : aA.eval (.tmp 16) = .int .i64 (RB.2.2) := pO 16 hA (by kernel_rfl) z16
   exact fV rfl ((wanted_of rfl 88 rfl t88).trans rfl) (.int .i64 (RB.2.2)) (ex_move (.tmp 16) rfl r16) hS uS
  ·intro f w1 hS hf aA hA
   have t88 : aA.tmps[88]? = some (.bool false) := pG 88 3 hA sbSy11 (by kernel_rfl) zsz rfl (hf 3 (by decide))
   have r18 : aA.eval (.tmp 18) = .int .i64 (RB.2.2) := pO 18 hA (by kernel_rfl) z18
   exact fV rfl ((wanted_of rfl 88 rfl t88).trans rfl) (.int .i64 (RB.2.2)) (ex_move (.tmp 18) rfl r18) hS uS
  ·intro f w1 hS hf aA hA
   have t88 : aA.tmps[88]? = some (.bool false) := pG 88 3 hA sbSy11 (by kernel_rfl) zsz rfl (hf 3 (by decide))
   have r89 : aA.eval (.tmp 89) = .int .i64 (RB.2.2) := pA 89 4 hA sbSy11 (by kernel_rfl) zsz rfl (hf 4 (by decide))
   have r90 : aA.eval (.tmp 90) = .int .i64 (RB.2.2) := pA 90 5 hA sbSy11 (by kernel_rfl) zsz rfl (hf 5 (by decide))
   exact fV rfl ((wanted_of rfl 88 rfl t88).trans rfl) (.bool false) (Eq.trans (ex_int .neq _ _ (.tmp 89) (.tmp 90) rfl .i64 RB.2.2 RB.2.2 r89 r90 (.bool (RB.2.2 != RB.2.2)) (fun _ => rfl)) (by rw [(bne_self_eq_false RB.2.2)])) hS uS
  ·intro f w1 hS hf aA hA
   have r88 : aA.eval (.tmp 88) = .bool false := pA 88 3 hA sbSy11 (by kernel_rfl) zsz rfl (hf 3 (by decide))
   have r91 : aA.eval (.tmp 91) = .bool false := pA 91 6 hA sbSy11 (by kernel_rfl) zsz rfl (hf 6 (by decide))
   exact fV rfl rfl (.bool false) (ex_pick (.tmp 88) _ (.tmp 91) rfl false r88 ((if_neg (by decide)).trans r91)) hS uS
  ·intro f w1 hS hf aA hA
   have r92 : aA.eval (.tmp 92) = .bool false := pA 92 7 hA sbSy11 (by kernel_rfl) zsz rfl (hf 7 (by decide))
   exact fV rfl rfl (.bool false) (ex_move (.tmp 92) rfl r92) hS uS
  ·intro f w1 hS hf aA hA
   have t93 : aA.tmps[93]? = some (.bool false) := pG 93 8 hA sbSy11 (by kernel_rfl) zsz rfl (hf 8 (by decide))
   have r20 : aA.eval (.tmp 20) = .int .i64 (RM.2.2) := pO 20 hA (by kernel_rfl) z20
   exact fV rfl ((wanted_of rfl 93 rfl t93).trans rfl) (.int .i64 (RM.2.2)) (ex_move (.tmp 20) rfl r20) hS uS
  ·intro f w1 hS hf aA hA
   have t93 : aA.tmps[93]? = some (.bool false) := pG 93 8 hA sbSy11 (by kernel_rfl) zsz rfl (hf 8 (by decide))
   have r22 : aA.eval (.tmp 22) = .int .i64 (RM.2.2) := pO 22 hA (by kernel_rfl) z22
   exact fV rfl ((wanted_of rfl 93 rfl t93).trans rfl) (.int .i64 (RM.2.2)) (ex_move (.tmp 22) rfl r22) hS uS
  ·intro f w1 hS hf aA hA
   have t93 : aA.tmps[93]? = some (.bool false) := pG 93 8 hA sbSy11 (by kernel_rfl) zsz rfl (hf 8 (by decide))
   have r94 : aA.eval (.tmp 94) = .int .i64 (RM.2.2) := pA 94 9 hA sbSy11 (by kernel_rfl) zsz rfl (hf 9 (by decide))
   have r95 : aA.eval (.tmp 95) = .int .i64 (RM.2.2) := pA 95 10 hA sbSy11 (by kernel_rfl) zsz rfl (hf 10 (by decide))
   exact fV rfl ((wanted_of rfl 93 rfl t93).trans rfl) (.bool false) (Eq.trans (ex_int .neq _ _ (.tmp 94) (.tmp 95) rfl .i64 RM.2.2 RM.2.2 r94 r95 (.bool (RM.2.2 != RM.2.2)) (fun _ => rfl)) (by rw [(bne_self_eq_false RM.2.2)])) hS uS
  ·intro f w1 hS hf aA hA
   have r93 : aA.eval (.tmp 93) = .bool false := pA 93 8 hA sbSy11 (by kernel_rfl) zsz rfl (hf 8 (by decide))
   have r96 : aA.eval (.tmp 96) = .bool false := pA 96 11 hA sbSy11 (by kernel_rfl) zsz rfl (hf 11 (by decide))
   exact fV rfl rfl (.bool false) (ex_pick (.tmp 93) _ (.tmp 96) rfl false r93 ((if_neg (by decide)).trans r96)) hS uS
  ·intro f w1 hS hf aA hA
   have r97 : aA.eval (.tmp 97) = .bool false := pA 97 12 hA sbSy11 (by kernel_rfl) zsz rfl (hf 12 (by decide))
   exact fV rfl rfl (.bool false) (ex_move (.tmp 97) rfl r97) hS uS
  ·intro f w1 hS hf aA hA
   have t98 : aA.tmps[98]? = some (.bool false) := pG 98 13 hA sbSy11 (by kernel_rfl) zsz rfl (hf 13 (by decide))
   have r11 : aA.eval (.tmp 11) = .pointer (some ⟨b5_8, 0, none⟩) := pO 11 hA (by kernel_rfl) z11
   exact fV rfl ((wanted_of rfl 98 rfl t98).trans rfl) (.agg #[.int .u64 (RA.1 : Int), v5_6]) (ex_loadR 26 (.tmp 11) rfl ⟨b5_8, 0, none⟩ r11 (fun _ => by kernel_rfl) [.int .u64 (RA.1 : Int), v5_6] (by kernel_rfl) ((HX_b5_8.out.keepB hS).part [.int .u64 (RA.1 : Int), v5_6] 0 (fun j u hu => by rw [Nat.zero_add]; exact hu))) hS uS
  ·intro f w1 hS hf aA hA
   have t98 : aA.tmps[98]? = some (.bool false) := pG 98 13 hA sbSy11 (by kernel_rfl) zsz rfl (hf 13 (by decide))
   have r99 : aA.eval (.tmp 99) = .agg #[.int .u64 (RA.1 : Int), v5_6] := pA 99 14 hA sbSy11 (by kernel_rfl) zsz rfl (hf 14 (by decide))
   exact fC rfl ((wanted_of rfl 98 rfl t98).trans rfl) 15 #[(.tmp 99)] _ rfl #[.agg #[.int .u64 (RA.1 : Int), v5_6]] (mp1 r99) (fun w => by kernel_rfl) _ (tableOf_any RA.1 _ _ w1 (Nat.le_trans HSA5.out (show 10000 ≤ 100000 by decide)) (HU5_6.out.keep hS)) hS (fun _ _ ⟨zz, a, b⟩ => ⟨zz, uS.trans a, b⟩)
  ·intro f w1 hS hf aA hA
   have t98 : aA.tmps[98]? = some (.bool false) := pG 98 13 hA sbSy11 (by kernel_rfl) zsz rfl (hf 13 (by decide))
   have r13 : aA.eval (.tmp 13) = .pointer (some ⟨b6_9, 0, none⟩) := pO 13 hA (by kernel_rfl) z13
   exact fV rfl ((wanted_of rfl 98 rfl t98).trans rfl) (.agg #[.int .u64 (RA.1 : Int), v6_7]) (ex_loadR 37 (.tmp 13) rfl ⟨b6_9, 0, none⟩ r13 (fun _ => by kernel_rfl) [.int .u64 (RA.1 : Int), v6_7] (by kernel_rfl) ((HX_b6_9.out.keepB hS).part [.int .u64 (RA.1 : Int), v6_7] 0 (fun j u hu => by rw [Nat.zero_add]; exact hu))) hS uS
  ·intro f w1 hS hf aA hA
   have t98 : aA.tmps[98]? = some (.bool false) := pG 98 13 hA sbSy11 (by kernel_rfl) zsz rfl (hf 13 (by decide))
   obtain ⟨x100, hx100, hr100⟩ := hf 15 (by decide)
   have e100 : aA.eval (.tmp 100) = .agg #[.int .u64 (RA.1 : Int), x100] := pA 100 15 hA sbSy11 (by kernel_rfl) zsz rfl hx100
   have r101 : aA.eval (.tmp 101) = .agg #[.int .u64 (RA.1 : Int), v6_7] := pA 101 16 hA sbSy11 (by kernel_rfl) zsz rfl (hf 16 (by decide))
   exact fC rfl ((wanted_of rfl 98 rfl t98).trans rfl) 14 #[(.tmp 100), (.tmp 101)] _ rfl #[.agg #[.int .u64 (RA.1 : Int), x100], .agg #[.int .u64 (RA.1 : Int), v6_7]] (mp2 e100 r101) (fun w => by kernel_rfl) _ (sameT_any _ _ _ _ w1 (Nat.le_trans HSA5.out (by decide)) hr100 (HU6_7.out.keep hS)) hS (fun _ _ h => uS.trans h)
  ·intro f w1 hS hf aA hA
   have t98 : aA.tmps[98]? = some (.bool false) := pG 98 13 hA sbSy11 (by kernel_rfl) zsz rfl (hf 13 (by decide))
   have r102 : aA.eval (.tmp 102) = .bool true := pA 102 17 hA sbSy11 (by kernel_rfl) zsz rfl (hf 17 (by decide))
   exact fV rfl ((wanted_of rfl 98 rfl t98).trans rfl) (.bool false) (ex_not _ (.tmp 102) rfl r102) hS uS
  ·intro f w1 hS hf aA hA
   have r98 : aA.eval (.tmp 98) = .bool false := pA 98 13 hA sbSy11 (by kernel_rfl) zsz rfl (hf 13 (by decide))
   have r103 : aA.eval (.tmp 103) = .bool false := pA 103 18 hA sbSy11 (by kernel_rfl) zsz rfl (hf 18 (by decide))
   exact fV rfl rfl (.bool false) (ex_pick (.tmp 98) _ (.tmp 103) rfl false r98 ((if_neg (by decide)).trans r103)) hS uS
  ·intro f w1 hS hf aA hA
   have r104 : aA.eval (.tmp 104) = .bool false := pA 104 19 hA sbSy11 (by kernel_rfl) zsz rfl (hf 19 (by decide))
   exact fV rfl rfl (.bool false) (ex_move (.tmp 104) rfl r104) hS uS
  ·intro f w1 hS hf aA hA
   have t105 : aA.tmps[105]? = some (.bool false) := pG 105 20 hA sbSy11 (by kernel_rfl) zsz rfl (hf 20 (by decide))
   have r19 : aA.eval (.tmp 19) = .pointer (some ⟨b9_6, 0, none⟩) := pO 19 hA (by kernel_rfl) z19
   exact fV rfl ((wanted_of rfl 105 rfl t105).trans rfl) (.agg #[.int .u64 (RM.1 : Int), v9_4]) (ex_loadR 26 (.tmp 19) rfl ⟨b9_6, 0, none⟩ r19 (fun _ => by kernel_rfl) [.int .u64 (RM.1 : Int), v9_4] (by kernel_rfl) ((HX_b9_6.out.keepB hS).part [.int .u64 (RM.1 : Int), v9_4] 0 (fun j u hu => by rw [Nat.zero_add]; exact hu))) hS uS
  ·intro f w1 hS hf aA hA
   have t105 : aA.tmps[105]? = some (.bool false) := pG 105 20 hA sbSy11 (by kernel_rfl) zsz rfl (hf 20 (by decide))
   have r106 : aA.eval (.tmp 106) = .agg #[.int .u64 (RM.1 : Int), v9_4] := pA 106 21 hA sbSy11 (by kernel_rfl) zsz rfl (hf 21 (by decide))
   exact fC rfl ((wanted_of rfl 105 rfl t105).trans rfl) 15 #[(.tmp 106)] _ rfl #[.agg #[.int .u64 (RM.1 : Int), v9_4]] (mp1 r106) (fun w => by kernel_rfl) _ (tableOf_any RM.1 _ _ w1 (Nat.le_trans HSM5.out (show 10000 ≤ 100000 by decide)) (HU9_4.out.keep hS)) hS (fun _ _ ⟨zz, a, b⟩ => ⟨zz, uS.trans a, b⟩)
  ·intro f w1 hS hf aA hA
   have t105 : aA.tmps[105]? = some (.bool false) := pG 105 20 hA sbSy11 (by kernel_rfl) zsz rfl (hf 20 (by decide))
   have r21 : aA.eval (.tmp 21) = .pointer (some ⟨b10_6, 0, none⟩) := pO 21 hA (by kernel_rfl) z21
   exact fV rfl ((wanted_of rfl 105 rfl t105).trans rfl) (.agg #[.int .u64 (RM.1 : Int), v10_4]) (ex_loadR 37 (.tmp 21) rfl ⟨b10_6, 0, none⟩ r21 (fun _ => by kernel_rfl) [.int .u64 (RM.1 : Int), v10_4] (by kernel_rfl) ((HX_b10_6.out.keepB hS).part [.int .u64 (RM.1 : Int), v10_4] 0 (fun j u hu => by rw [Nat.zero_add]; exact hu))) hS uS
  ·intro f w1 hS hf aA hA
   have t105 : aA.tmps[105]? = some (.bool false) := pG 105 20 hA sbSy11 (by kernel_rfl) zsz rfl (hf 20 (by decide))
   obtain ⟨x107, hx107, hr107⟩ := hf 22 (by decide)
   have e107 : aA.eval (.tmp 107) = .agg #[.int .u64 (RM.1 : Int), x107] := pA 107 22 hA sbSy11 (by kernel_rfl) zsz rfl hx107
   have r108 : aA.eval (.tmp 108) = .agg #[.int .u64 (RM.1 : Int), v10_4] := pA 108 23 hA sbSy11 (by kernel_rfl) zsz rfl (hf 23 (by decide))
   exact fC rfl ((wanted_of rfl 105 rfl t105).trans rfl) 14 #[(.tmp 107), (.tmp 108)] _ rfl #[.agg #[.int .u64 (RM.1 : Int), x107], .agg #[.int .u64 (RM.1 : Int), v10_4]] (mp2 e107 r108) (fun w => by kernel_rfl) _ (sameT_any _ _ _ _ w1 (Nat.le_trans HSM5.out (by decide)) hr107 (HU10_4.out.keep hS)) hS (fun _ _ h => uS.trans h)
  ·intro f w1 hS hf aA hA
   have t105 : aA.tmps[105]? = some (.bool false) := pG 105 20 hA sbSy11 (by kernel_rfl) zsz rfl (hf 20 (by decide))
   have r109 : aA.eval (.tmp 109) = .bool true := pA 109 24 hA sbSy11 (by kernel_rfl) zsz rfl (hf 24 (by decide))
   exact fV rfl ((wanted_of rfl 105 rfl t105).trans rfl) (.bool false) (ex_not _ (.tmp 109) rfl r109) hS uS
  ·intro f w1 hS hf aA hA
   have r105 : aA.eval (.tmp 105) = .bool false := pA 105 20 hA sbSy11 (by kernel_rfl) zsz rfl (hf 20 (by decide))
   have r110 : aA.eval (.tmp 110) = .bool false := pA 110 25 hA sbSy11 (by kernel_rfl) zsz rfl (hf 25 (by decide))
   exact fV rfl rfl (.bool false) (ex_pick (.tmp 105) _ (.tmp 110) rfl false r105 ((if_neg (by decide)).trans r110)) hS uS
 intro f u11 hS hf hap
 have h0 : f 0 = .int .i64 (RA.2.2) := hf 0 (by decide)
 have h1 : f 1 = .int .i64 (RA.2.2) := hf 1 (by decide)
 have h2 : f 2 = .bool false := hf 2 (by decide)
 have h3 : f 3 = .bool false := hf 3 (by decide)
 have h4 : f 4 = .int .i64 (RB.2.2) := hf 4 (by decide)
 have h5 : f 5 = .int .i64 (RB.2.2) := hf 5 (by decide)
 have h6 : f 6 = .bool false := hf 6 (by decide)
 have h7 : f 7 = .bool false := hf 7 (by decide)
 have h8 : f 8 = .bool false := hf 8 (by decide)
 have h9 : f 9 = .int .i64 (RM.2.2) := hf 9 (by decide)
 have h10 : f 10 = .int .i64 (RM.2.2) := hf 10 (by decide)
 have h11 : f 11 = .bool false := hf 11 (by decide)
 have h12 : f 12 = .bool false := hf 12 (by decide)
 have h13 : f 13 = .bool false := hf 13 (by decide)
 have h14 : f 14 = .agg #[.int .u64 (RA.1 : Int), v5_6] := hf 14 (by decide)
 obtain ⟨v11_15, h15, hu15⟩ := hf 15 (by decide)
 have HU11_15 := Lib.hid hu15
 clear hu15
 have h16 : f 16 = .agg #[.int .u64 (RA.1 : Int), v6_7] := hf 16 (by decide)
 have h17 : f 17 = .bool true := hf 17 (by decide)
 have h18 : f 18 = .bool false := hf 18 (by decide)
 have h19 : f 19 = .bool false := hf 19 (by decide)
 have h20 : f 20 = .bool false := hf 20 (by decide)
 have h21 : f 21 = .agg #[.int .u64 (RM.1 : Int), v9_4] := hf 21 (by decide)
 obtain ⟨v11_22, h22, hu22⟩ := hf 22 (by decide)
 have HU11_22 := Lib.hid hu22
 clear hu22
 have h23 : f 23 = .agg #[.int .u64 (RM.1 : Int), v10_4] := hf 23 (by decide)
 have h24 : f 24 = .bool true := hf 24 (by decide)
 have h25 : f 25 = .bool false := hf 25 (by decide)
 have h26 : f 26 = .bool false := hf 26 (by decide)
 clear hf hap
 clear zsz z12 z14 z16 z18 z20 z22 z11 z13 z19 z21
 subst ha0
 simp only [slotsSy11, putAll, h0, h1, h2, h3, h4, h5, h6, h7, h8, h9, h10, h11, h12, h13, h14, h15, h16, h17, h18, h19, h20, h21, h22, h23, h24, h25, h26, Act.put, List.setIfInBounds_toArray, List.set_cons_zero, List.set_cons_succ]
 clear h0 h1 h2 h3 h4 h5 h6 h7 h8 h9 h10 h11 h12 h13 h14 h15 h16 h17 h18 h19 h20 h21 h22 h23 h24 h25 h26
 refine tl_nilN ?_
 replace HX1 := Lib.hid (HX1.out.keepB hS)
 replace HX_b5_8 := Lib.hid (HX_b5_8.out.keepB hS)
 replace HU5_6 := Lib.hid (HU5_6.out.keep hS)
 replace HX_b6_9 := Lib.hid (HX_b6_9.out.keepB hS)
 replace HU6_7 := Lib.hid (HU6_7.out.keep hS)
 replace HX_b7_8 := Lib.hid (HX_b7_8.out.keepB hS)
 replace HU7_6 := Lib.hid (HU7_6.out.keep hS)
 replace HX_b8_9 := Lib.hid (HX_b8_9.out.keepB hS)
 replace HU8_7 := Lib.hid (HU8_7.out.keep hS)
 replace HX_b9_6 := Lib.hid (HX_b9_6.out.keepB hS)
 replace HU9_4 := Lib.hid (HU9_4.out.keep hS)
 replace HX_b10_6 := Lib.hid (HX_b10_6.out.keepB hS)
 replace HU10_4 := Lib.hid (HU10_4.out.keep hS)
 replace HB := Lib.hid (HB.out.trans (hS.mono HB.out.size))
 clear hS
 clear HX_b7_8 HU7_6 HX_b8_9 HU8_7
 obtain ⟨gd, hgd⟩ : ∃ gd, goodN n = gd := ⟨_, rfl⟩
 have HGD := Lib.hid hgd
 clear hgd
 cases gd
 ·have hA0 : RA = (0, [], 1) := by rw [HRA.out]; exact ofT_bad HGD.out
  subst hA0
  go_upto_region 13 with fail
  refine wp_act (fun a0 ha0 => ?_)
  have zsz : a0.tmps.size = 156 := by rw [ha0]; rfl
  have z12 : a0.eval (.tmp 12) = .int .i64 1 := by rw [ha0]; rfl
  refine wrO [] slotsSyf13 waitSyf13 [Fct.val Flz 0 (.int .i64 1), Fct.val Flz 1 (.bool true)] (fun w' => Below u11.heap.size u11 w') _ 2 0 chkSyf13 (by kernel_rfl) (by kernel_rfl) (by kernel_rfl) (by decide) (Below.refl _ _) ?_ ?_
  ·refine lt_s (lt_s (lt_0) ?_) ?_
   ·intro f w1 hS hf aA hA
    have r12 : aA.eval (.tmp 12) = .int .i64 1 := pO 12 hA (by kernel_rfl) z12
    exact fV rfl rfl (.int .i64 1) (ex_move (.tmp 12) rfl r12) hS uS
   ·intro f w1 hS hf aA hA
    have r112 : aA.eval (.tmp 112) = .int .i64 1 := pA 112 0 hA sbSyf13 (by kernel_rfl) zsz rfl (hf 0 (by decide))
    exact fV rfl rfl (.bool true) (Eq.trans (ex_int .neq _ _ (.tmp 112) _ rfl .i64 1 0 r112 rfl (.bool ((1 : Int) != (0 : Int))) (fun _ => rfl)) (by rw [(by decide : ((1 : Int) != (0 : Int)) = true)])) hS uS
  intro f u13 hS hf hap
  have h0 : f 0 = .int .i64 1 := hf 0 (by decide)
  have h1 : f 1 = .bool true := hf 1 (by decide)
  clear hf hap
  clear zsz z12
  subst ha0
  simp only [slotsSyf13, putAll, h0, h1, Act.put, List.setIfInBounds_toArray, List.set_cons_zero, List.set_cons_succ]
  clear h0 h1
  refine tl_nil ?_
  replace HX1 := Lib.hid (HX1.out.keepB hS)
  replace HX_b5_8 := Lib.hid (HX_b5_8.out.keepB hS)
  replace HU5_6 := Lib.hid (HU5_6.out.keep hS)
  replace HX_b6_9 := Lib.hid (HX_b6_9.out.keepB hS)
  replace HU6_7 := Lib.hid (HU6_7.out.keep hS)
  replace HX_b9_6 := Lib.hid (HX_b9_6.out.keepB hS)
  replace HU9_4 := Lib.hid (HU9_4.out.keep hS)
  replace HX_b10_6 := Lib.hid (HX_b10_6.out.keepB hS)
  replace HU10_4 := Lib.hid (HU10_4.out.keep hS)
  replace HU11_15 := Lib.hid (HU11_15.out.keep hS)
  replace HU11_22 := Lib.hid (HU11_22.out.keep hS)
  replace HB := Lib.hid (HB.out.trans (hS.mono HB.out.size))
  clear hS
  go_upto_region 14 with fail
  refine wp_act (fun a0 ha0 => ?_)
  have zsz : a0.tmps.size = 156 := by rw [ha0]; rfl
  have z11 : a0.eval (.tmp 11) = .pointer (some ⟨b5_8, 0, none⟩) := by rw [ha0]; rfl
  refine wrO [] slotsSyf14 waitSyf14 [Fct.val Flz 0 (.pointer (some ⟨b5_8, 1, none⟩)), Fct.val Flz 1 (v5_6), Fct.val Flz 2 (.int .i64 0), Fct.val Flz 3 (.bool true), Fct.val Flz 4 (.bool true)] (fun w' => Below u13.heap.size u13 w') _ 5 0 chkSyf14 (by kernel_rfl) (by kernel_rfl) (by kernel_rfl) (by decide) (Below.refl _ _) ?_ ?_
  ·refine lt_s (lt_s (lt_s (lt_s (lt_s (lt_0) ?_) ?_) ?_) ?_) ?_
   ·intro f w1 hS hf aA hA
    have r11 : aA.eval (.tmp 11) = .pointer (some ⟨b5_8, 0, none⟩) := pO 11 hA (by kernel_rfl) z11
    exact fV rfl rfl (.pointer (some ⟨b5_8, 1, none⟩)) (fldT1 26 (Or.inl rfl) (.tmp 11) rfl b5_8 r11) hS uS
   ·intro f w1 hS hf aA hA
    have r114 : aA.eval (.tmp 114) = .pointer (some ⟨b5_8, 1, none⟩) := pA 114 0 hA sbSyf14 (by kernel_rfl) zsz rfl (hf 0 (by decide))
    exact fV rfl rfl (v5_6) (ex_load1 24 (.tmp 114) rfl ⟨b5_8, 1, none⟩ r114 (fun _ => by kernel_rfl) ((HX_b5_8.out.keepB hS).cellv rfl)) hS uS
   ·intro f w1 hS hf aA hA
    have r115 : aA.eval (.tmp 115) = v5_6 := pA 115 1 hA sbSyf14 (by kernel_rfl) zsz rfl (hf 1 (by decide))
    obtain ⟨q9, c9, hv9, _⟩ := (HU5_6.out.keep hS)
    exact fV rfl rfl (.int .i64 0) (Eq.trans (ex_len 24 68 (.tmp 115) rfl (by kernel_rfl) q9 (([] : List Ce)).length c9 (r115.trans hv9)) (by rw [show (((([] : List Ce)).length : Nat) : Int) = 0 from rfl])) hS uS
   ·intro f w1 hS hf aA hA
    have r116 : aA.eval (.tmp 116) = .int .i64 0 := pA 116 2 hA sbSyf14 (by kernel_rfl) zsz rfl (hf 2 (by decide))
    exact fV rfl rfl (.bool true) (Eq.trans (ex_int .eql _ _ (.tmp 116) _ rfl .i64 0 0 r116 rfl (.bool ((0 : Int) == (0 : Int))) (fun _ => rfl)) (by rw [(by decide : ((0 : Int) == (0 : Int)) = true)])) hS uS
   ·intro f w1 hS hf aA hA
    have r117 : aA.eval (.tmp 117) = .bool true := pA 117 3 hA sbSyf14 (by kernel_rfl) zsz rfl (hf 3 (by decide))
    exact fV rfl rfl (.bool true) (ex_assign (.tmp 117) rfl r117) hS uS
  intro f u14 hS hf hap
  have h0 : f 0 = .pointer (some ⟨b5_8, 1, none⟩) := hf 0 (by decide)
  have h1 : f 1 = v5_6 := hf 1 (by decide)
  have h2 : f 2 = .int .i64 0 := hf 2 (by decide)
  have h3 : f 3 = .bool true := hf 3 (by decide)
  have h4 : f 4 = .bool true := hf 4 (by decide)
  clear hf hap
  clear zsz z11
  subst ha0
  simp only [slotsSyf14, putAll, h0, h1, h2, h3, h4, Act.put, List.setIfInBounds_toArray, List.set_cons_zero, List.set_cons_succ]
  clear h0 h1 h2 h3 h4
  refine tl_nil ?_
  replace HX1 := Lib.hid (HX1.out.keepB hS)
  replace HX_b5_8 := Lib.hid (HX_b5_8.out.keepB hS)
  replace HU5_6 := Lib.hid (HU5_6.out.keep hS)
  replace HX_b6_9 := Lib.hid (HX_b6_9.out.keepB hS)
  replace HU6_7 := Lib.hid (HU6_7.out.keep hS)
  replace HX_b9_6 := Lib.hid (HX_b9_6.out.keepB hS)
  replace HU9_4 := Lib.hid (HU9_4.out.keep hS)
  replace HX_b10_6 := Lib.hid (HX_b10_6.out.keepB hS)
  replace HU10_4 := Lib.hid (HU10_4.out.keep hS)
  replace HU11_15 := Lib.hid (HU11_15.out.keep hS)
  replace HU11_22 := Lib.hid (HU11_22.out.keep hS)
  replace HB := Lib.hid (HB.out.trans (hS.mono HB.out.size))
  clear hS
  go_wp2_with fail
  go_ret
  exact ⟨rfl, HB.out⟩
 ·obtain ⟨m, hm, hm3, hm4⟩ := good_int HGD.out
  have HM := Lib.hid hm
  have HM4 := Lib.hid hm4
  have HGM : Hid (goodN (m : Int) = true) := Lib.hid (by rw [← hm]; exact HGD.out)
  clear hm hm3 hm4
  have hA1 : RA = (s, tab s m (srt (A)), 0) := by rw [HRA.out]; exact ofT_good HGD.out HM.out
  have hB1 : RB = (s, tab s m (srt (B)), 0) := by rw [HRB.out]; exact ofT_good HGD.out HM.out
  subst hA1
  subst hB1
  have hM1 : RM = (s, List.zipWith minusC (tab s m (srt (A))) (tab s m (srt (B))), 0) := by
   rw [HRM.out]
   show minusT s (tab s m (srt (A))) s (tab s m (srt (B))) = _
   unfold minusT
   rw [if_pos (tab_ok HGM.out)]
  subst hM1
  go_upto_region 13 with fail
  refine wp_act (fun a0 ha0 => ?_)
  have zsz : a0.tmps.size = 156 := by rw [ha0]; rfl
  have z12 : a0.eval (.tmp 12) = .int .i64 0 := by rw [ha0]; rfl
  refine wrO [] slotsSyt13 waitSyt13 [Fct.val Flz 0 (.int .i64 0), Fct.val Flz 1 (.bool false)] (fun w' => Below u11.heap.size u11 w') _ 2 0 chkSyt13 (by kernel_rfl) (by kernel_rfl) (by kernel_rfl) (by decide) (Below.refl _ _) ?_ ?_
  ·refine lt_s (lt_s (lt_0) ?_) ?_
   ·intro f w1 hS hf aA hA
    have r12 : aA.eval (.tmp 12) = .int .i64 0 := pO 12 hA (by kernel_rfl) z12
    exact fV rfl rfl (.int .i64 0) (ex_move (.tmp 12) rfl r12) hS uS
   ·intro f w1 hS hf aA hA
    have r112 : aA.eval (.tmp 112) = .int .i64 0 := pA 112 0 hA sbSyt13 (by kernel_rfl) zsz rfl (hf 0 (by decide))
    exact fV rfl rfl (.bool false) (Eq.trans (ex_int .neq _ _ (.tmp 112) _ rfl .i64 0 0 r112 rfl (.bool ((0 : Int) != (0 : Int))) (fun _ => rfl)) (by rw [(by decide : ((0 : Int) != (0 : Int)) = false)])) hS uS
  intro f u13 hS hf hap
  have h0 : f 0 = .int .i64 0 := hf 0 (by decide)
  have h1 : f 1 = .bool false := hf 1 (by decide)
  clear hf hap
  clear zsz z12
  subst ha0
  simp only [slotsSyt13, putAll, h0, h1, Act.put, List.setIfInBounds_toArray, List.set_cons_zero, List.set_cons_succ]
  clear h0 h1
  refine tl_nil ?_
  replace HX1 := Lib.hid (HX1.out.keepB hS)
  replace HX_b5_8 := Lib.hid (HX_b5_8.out.keepB hS)
  replace HU5_6 := Lib.hid (HU5_6.out.keep hS)
  replace HX_b6_9 := Lib.hid (HX_b6_9.out.keepB hS)
  replace HU6_7 := Lib.hid (HU6_7.out.keep hS)
  replace HX_b9_6 := Lib.hid (HX_b9_6.out.keepB hS)
  replace HU9_4 := Lib.hid (HU9_4.out.keep hS)
  replace HX_b10_6 := Lib.hid (HX_b10_6.out.keepB hS)
  replace HU10_4 := Lib.hid (HU10_4.out.keep hS)
  replace HU11_15 := Lib.hid (HU11_15.out.keep hS)
  replace HU11_22 := Lib.hid (HU11_22.out.keep hS)
  replace HB := Lib.hid (HB.out.trans (hS.mono HB.out.size))
  clear hS
  go_upto_region 15 with fail
  have HST : Hid (Below u13.heap.size u13 u13.drew) := Lib.hid (Below.refl _ _).drew
  replace HX1 := Lib.hid (HX1.out.keepB HST.out)
  replace HX_b5_8 := Lib.hid (HX_b5_8.out.keepB HST.out)
  replace HU5_6 := Lib.hid (HU5_6.out.keep HST.out)
  replace HX_b6_9 := Lib.hid (HX_b6_9.out.keepB HST.out)
  replace HU6_7 := Lib.hid (HU6_7.out.keep HST.out)
  replace HX_b9_6 := Lib.hid (HX_b9_6.out.keepB HST.out)
  replace HU9_4 := Lib.hid (HU9_4.out.keep HST.out)
  replace HX_b10_6 := Lib.hid (HX_b10_6.out.keepB HST.out)
  replace HU10_4 := Lib.hid (HU10_4.out.keep HST.out)
  replace HU11_15 := Lib.hid (HU11_15.out.keep HST.out)
  replace HU11_22 := Lib.hid (HU11_22.out.keep HST.out)
  replace HB := Lib.hid (HB.out.trans (HST.out.mono HB.out.size))
  clear HST
  refine wp_act (fun a0 ha0 => ?_)
  have zsz : a0.tmps.size = 156 := by rw [ha0]; rfl
  have z9 : a0.eval (.tmp 9) = .pointer (some ⟨g1, 0, none⟩) := by rw [ha0]; rfl
  refine wp_region_flw (E := (Flf 41 (encU x))) [] slotsSyt15 waitSyt15 [Fct.val (Flf 41 (encU x)) 0 (.agg (encU x).toArray), Fct.val (Flf 41 (encU x)) 1 (.agg (encU x).toArray), Fct.shape 41 (encU x) 2 u13.drew.heap.size, Fct.obj 3 (fun v w => ∃ g, v = .pointer (some ⟨g, 0, none⟩) ∧ u13.drew.heap.size ≤ g ∧ Has w g 52 (encU zS)) (fun _ _ _ ⟨g, a, b, c⟩ he => ⟨g, a, b, (he.2 _ _ _ c).2 (Or.inl (by decide))⟩), Fct.held 41 (encU x) 2 u13.drew.heap.size] (fun w' => Below u13.drew.heap.size u13.drew w') _ 5 1 chkSyt15 (by kernel_rfl) (by kernel_rfl) (by kernel_rfl) (by kernel_rfl) (by decide) (Below.refl _ _) ?_ ?_
  ·refine lt_s (lt_s (lt_s (lt_s (lt_s (lt_0) ?_) ?_) ?_) ?_) ?_
   ·intro f w1 hS hf
    generalize hA : putAll _ _ f = aA
    have r9 : aA.eval (.tmp 9) = .pointer (some ⟨g1, 0, none⟩) := pO 9 hA (by kernel_rfl) z9
    exact flw_val rfl rfl (.agg (encU x).toArray) (ex_loadR 40 (.tmp 9) rfl ⟨g1, 0, none⟩ r9 (fun _ => by kernel_rfl) (encU x) (by rw [encU_len]; kernel_rfl) ((HX1.out.keepB hS).part (encU x) 0 (encU_all' x))) hS (Flf.refl _) uS
   ·intro f w1 hS hf
    generalize hA : putAll _ _ f = aA
    have r9 : aA.eval (.tmp 9) = .pointer (some ⟨g1, 0, none⟩) := pO 9 hA (by kernel_rfl) z9
    exact flw_val rfl rfl (.agg (encU x).toArray) (ex_loadR 40 (.tmp 9) rfl ⟨g1, 0, none⟩ r9 (fun _ => by kernel_rfl) (encU x) (by rw [encU_len]; kernel_rfl) ((HX1.out.keepB hS).part (encU x) 0 (encU_all' x))) hS (Flf.refl _) uS
   ·intro f w1 hS hf
    generalize hA : putAll _ _ f = aA
    exact flw_wp rfl rfl (fun K hK => wp_alloc_row 41 rfl (.agg (encU zS).toArray) (fun w => by kernel_rfl) (hK _ _ (hS.alloc hS.size _) (Flf.al _ _) ⟨_, _, uS, hS.size, Has.made' _ _ _ _ rfl, by simp only [encU_len]⟩))
   ·intro f w1 hS hf
    generalize hA : putAll _ _ f = aA
    exact flw_wp rfl rfl (fun K hK => wp_alloc_row 52 rfl (.agg (encU zS).toArray) (fun w => by kernel_rfl) (hK _ _ (hS.alloc hS.size _) (Flf.al _ _) ⟨_, uS, hS.size, Has.made' _ _ _ _ rfl⟩))
   ·intro f w1 hS hf
    generalize hA : putAll _ _ f = aA
    have e23 : aA.eval (.tmp 23) = f 2 := pA 23 2 hA sbSyt15 (by kernel_rfl) zsz rfl rfl
    have r118 : aA.eval (.tmp 118) = .agg (encU x).toArray := pA 118 0 hA sbSyt15 (by kernel_rfl) zsz rfl (hf 0 (by decide))
    obtain ⟨g, old, hv, hg, ho, hol⟩ := hf 2 (by decide)
    exact flw_wp rfl rfl (fun K hK => wp_store_row 41 (.tmp 23) (.tmp 118) rfl g (encU x).toArray (e23.trans hv) r118 41 old.toArray ho (by rw [List.size_toArray, encU_len]; kernel_rfl) (by rw [List.size_toArray, List.size_toArray]; exact hol) (encU_all _) (hK _ _ (below_row hS hg _) (Flf.store ho hol) ⟨g, (updF_ne f _ (by decide)).trans hv, hg, ho.rowl _⟩))
  intro f x15 hS hf hap
  have h0 : f 0 = .agg (encU x).toArray := hf 0 (by decide)
  have h1 : f 1 = .agg (encU x).toArray := hf 1 (by decide)
  obtain ⟨b15_3, h3, hgb3, hhb3⟩ := hf 3 (by decide)
  obtain ⟨b15_2, h2, hgb2, hhb2⟩ := hf 4 (by decide)
  clear hf hap
  clear zsz z9
  subst ha0
  simp only [slotsSyt15, putAll, h0, h1, h3, h2, Act.put, List.setIfInBounds_toArray, List.set_cons_zero, List.set_cons_succ]
  clear h0 h1 h3 h2
  refine tl_store rfl (by kernel_rfl) 52 (.tmp 24) (.tmp 119) rfl b15_3 (encU x) _ rfl rfl _ hhb3 (by rw [encU_len]; kernel_rfl) (by simp only [encU_len]) (encU_all _) ?_
  intro u15 hp3 hbl hot
  replace hS := hS.trans (hbl _ hgb3)
  replace hhb2 := (hot _ (Has.apartT hhb2 hhb3 (by decide))).trans hhb2
  clear hbl hot hhb3
  try simp only [Act.put]
  refine tl_nilN ?_
  replace HX1 := Lib.hid (HX1.out.keepB hS)
  replace HX_b5_8 := Lib.hid (HX_b5_8.out.keepB hS)
  replace HU5_6 := Lib.hid (HU5_6.out.keep hS)
  replace HX_b6_9 := Lib.hid (HX_b6_9.out.keepB hS)
  replace HU6_7 := Lib.hid (HU6_7.out.keep hS)
  replace HX_b9_6 := Lib.hid (HX_b9_6.out.keepB hS)
  replace HU9_4 := Lib.hid (HU9_4.out.keep hS)
  replace HX_b10_6 := Lib.hid (HX_b10_6.out.keepB hS)
  replace HU10_4 := Lib.hid (HU10_4.out.keep hS)
  replace HU11_15 := Lib.hid (HU11_15.out.keep hS)
  replace HU11_22 := Lib.hid (HU11_22.out.keep hS)
  have HBW := Lib.hid HB.out.size
  replace HB := Lib.hid (HB.out.trans (hS.mono HB.out.size))
  clear hS
  have HGb15_2 : Hid (w.heap.size ≤ b15_2) := Lib.hid (Nat.le_trans HBW.out hgb2)
  have HX_b15_2 : Hid (Has u15 b15_2 41 (encU x)) := Lib.hid hhb2
  clear hhb2 hgb2
  have HGb15_3 : Hid (w.heap.size ≤ b15_3) := Lib.hid (Nat.le_trans HBW.out hgb3)
  have HX_b15_3 : Hid (Has u15 b15_3 52 (encU x)) := Lib.hid hp3
  clear hp3 hgb3
  clear HBW
  go_upto_region 16 with fail
  have HST : Hid (Below u15.heap.size u15 u15.drew) := Lib.hid (Below.refl _ _).drew
  replace HX1 := Lib.hid (HX1.out.keepB HST.out)
  replace HX_b5_8 := Lib.hid (HX_b5_8.out.keepB HST.out)
  replace HU5_6 := Lib.hid (HU5_6.out.keep HST.out)
  replace HX_b6_9 := Lib.hid (HX_b6_9.out.keepB HST.out)
  replace HU6_7 := Lib.hid (HU6_7.out.keep HST.out)
  replace HX_b9_6 := Lib.hid (HX_b9_6.out.keepB HST.out)
  replace HU9_4 := Lib.hid (HU9_4.out.keep HST.out)
  replace HX_b10_6 := Lib.hid (HX_b10_6.out.keepB HST.out)
  replace HU10_4 := Lib.hid (HU10_4.out.keep HST.out)
  replace HU11_15 := Lib.hid (HU11_15.out.keep HST.out)
  replace HU11_22 := Lib.hid (HU11_22.out.keep HST.out)
  replace HX_b15_2 := Lib.hid (HX_b15_2.out.keepB HST.out)
  replace HX_b15_3 := Lib.hid (HX_b15_3.out.keepB HST.out)
  replace HB := Lib.hid (HB.out.trans (HST.out.mono HB.out.size))
  clear HST
  refine wp_act (fun a0 ha0 => ?_)
  have zsz : a0.tmps.size = 156 := by rw [ha0]; rfl
  have z11 : a0.eval (.tmp 11) = .pointer (some ⟨b5_8, 0, none⟩) := by rw [ha0]; rfl
  have z23 : a0.eval (.tmp 23) = .pointer (some ⟨b15_2, 0, none⟩) := by rw [ha0]; rfl
  have z13 : a0.eval (.tmp 13) = .pointer (some ⟨b6_9, 0, none⟩) := by rw [ha0]; rfl
  have z24 : a0.eval (.tmp 24) = .pointer (some ⟨b15_3, 0, none⟩) := by rw [ha0]; rfl
  have z19 : a0.eval (.tmp 19) = .pointer (some ⟨b9_6, 0, none⟩) := by rw [ha0]; rfl
  have z21 : a0.eval (.tmp 21) = .pointer (some ⟨b10_6, 0, none⟩) := by rw [ha0]; rfl
  refine wrD [] slotsSyt16 waitSyt16 [Fct.val Flz 0 (.agg #[.int .u64 (s : Int), v5_6]), Fct.val Flz 1 (.agg (encU x).toArray), Fct.obj 2 (fun v w => ∃ zz, v = .agg #[.int .u64 (s : Int), zz] ∧ Cs w zz (layT putC s x (tab s m (srt (A))))) (fun _ _ _ ⟨zz, a, b⟩ he => ⟨zz, a, b.flz he⟩), Fct.obj 3 (fun v w => ∃ zz, v = .agg #[.int .u64 (s : Int), zz] ∧ Cs w zz (layT putC s x (tab s m (srt (A))))) (fun _ _ _ ⟨zz, a, b⟩ he => ⟨zz, a, b.flz he⟩), Fct.val Flz 4 (.agg #[.int .u64 (s : Int), v6_7]), Fct.val Flz 5 (.agg (encU x).toArray), Fct.obj 6 (fun v w => ∃ zz, v = .agg #[.int .u64 (s : Int), zz] ∧ Cs w zz (layT putC s x (tab s m (srt (A))))) (fun _ _ _ ⟨zz, a, b⟩ he => ⟨zz, a, b.flz he⟩), Fct.val Flz 7 (.bool true), Fct.val Flz 8 (.bool true), Fct.val Flz 9 (.agg #[.int .u64 (s : Int), v5_6]), Fct.val Flz 10 (.agg (encU x).toArray), Fct.obj 11 (fun v w => ∃ zz, v = .agg #[.int .u64 (s : Int), zz] ∧ Cs w zz (layT takeC s x (tab s m (srt (A))))) (fun _ _ _ ⟨zz, a, b⟩ he => ⟨zz, a, b.flz he⟩), Fct.obj 12 (fun v w => ∃ zz, v = .agg #[.int .u64 (s : Int), zz] ∧ Cs w zz (layT takeC s x (tab s m (srt (A))))) (fun _ _ _ ⟨zz, a, b⟩ he => ⟨zz, a, b.flz he⟩), Fct.val Flz 13 (.agg #[.int .u64 (s : Int), v6_7]), Fct.val Flz 14 (.agg (encU x).toArray), Fct.obj 15 (fun v w => ∃ zz, v = .agg #[.int .u64 (s : Int), zz] ∧ Cs w zz (layT takeC s x (tab s m (srt (A))))) (fun _ _ _ ⟨zz, a, b⟩ he => ⟨zz, a, b.flz he⟩), Fct.val Flz 16 (.bool true), Fct.val Flz 17 (.bool true), Fct.val Flz 18 (.bool true), Fct.val Flz 19 (.agg #[.int .u64 (s : Int), v9_4]), Fct.val Flz 20 (.bool (zeroT (List.zipWith minusC (tab s m (srt (A))) (tab s m (srt (B)))))), Fct.val Flz 21 (.agg #[.int .u64 (s : Int), v10_4]), Fct.val Flz 22 (.bool (zeroT (List.zipWith minusC (tab s m (srt (A))) (tab s m (srt (B)))))), Fct.val Flz 23 (.bool true), Fct.val Flz 24 (.bool true), Fct.val Flz 25 (.bool true), Fct.val Flz 26 (.agg #[.int .u64 (s : Int), v9_4]), Fct.val Flz 27 (.int .i64 (cntT (List.zipWith minusC (tab s m (srt (A))) (tab s m (srt (B)))))), Fct.val Flz 28 (.agg #[.int .u64 (s : Int), v10_4]), Fct.val Flz 29 (.int .i64 (cntT (List.zipWith minusC (tab s m (srt (A))) (tab s m (srt (B)))))), Fct.val Flz 30 (.bool true), Fct.val Flz 31 (.bool true), Fct.val Flz 32 (.bool true), Fct.val Flz 33 (.agg #[.int .u64 (s : Int), v5_6]), Fct.val Flz 34 (.bool true), Fct.val Flz 35 (.bool true), Fct.val Flz 36 (.bool true)] (fun w' => Below u15.drew.heap.size u15.drew w') _ 37 0 chkSyt16 (by kernel_rfl) (by kernel_rfl) (by kernel_rfl) (by kernel_rfl) (by decide) (Below.refl _ _) ?_ ?_
  ·refine lt_s (lt_s (lt_s (lt_s (lt_s (lt_s (lt_s (lt_s (lt_s (lt_s (lt_s (lt_s (lt_s (lt_s (lt_s (lt_s (lt_s (lt_s (lt_s (lt_s (lt_s (lt_s (lt_s (lt_s (lt_s (lt_s (lt_s (lt_s (lt_s (lt_s (lt_s (lt_s (lt_s (lt_s (lt_s (lt_s (lt_s (lt_0) ?_) ?_) ?_) ?_) ?_) ?_) ?_) ?_) ?_) ?_) ?_) ?_) ?_) ?_) ?_) ?_) ?_) ?_) ?_) ?_) ?_) ?_) ?_) ?_) ?_) ?_) ?_) ?_) ?_) ?_) ?_) ?_) ?_) ?_) ?_) ?_) ?_
   ·intro f w1 hS hf aA hA
    have r11 : aA.eval (.tmp 11) = .pointer (some ⟨b5_8, 0, none⟩) := pO 11 hA (by kernel_rfl) z11
    exact fV rfl rfl (.agg #[.int .u64 (s : Int), v5_6]) (ex_loadR 26 (.tmp 11) rfl ⟨b5_8, 0, none⟩ r11 (fun _ => by kernel_rfl) [.int .u64 (s : Int), v5_6] (by kernel_rfl) ((HX_b5_8.out.keepB hS).part [.int .u64 (s : Int), v5_6] 0 (fun j u hu => by rw [Nat.zero_add]; exact hu))) hS uS
   ·intro f w1 hS hf aA hA
    have r23 : aA.eval (.tmp 23) = .pointer (some ⟨b15_2, 0, none⟩) := pO 23 hA (by kernel_rfl) z23
    exact fV rfl rfl (.agg (encU x).toArray) (ex_loadR 41 (.tmp 23) rfl ⟨b15_2, 0, none⟩ r23 (fun _ => by kernel_rfl) (encU x) (by rw [encU_len]; kernel_rfl) ((HX_b15_2.out.keepB hS).part (encU x) 0 (encU_all' x))) hS uS
   ·intro f w1 hS hf aA hA
    have r120 : aA.eval (.tmp 120) = .agg #[.int .u64 (s : Int), v5_6] := pA 120 0 hA sbSyt16 (by kernel_rfl) zsz rfl (hf 0 (by decide))
    have r121 : aA.eval (.tmp 121) = .agg (encU x).toArray := pA 121 1 hA sbSyt16 (by kernel_rfl) zsz rfl (hf 1 (by decide))
    exact fC rfl rfl 16 #[(.tmp 120), (.tmp 121)] _ rfl #[.agg #[.int .u64 (s : Int), v5_6], .agg (encU x).toArray] (mp2 r120 r121) (fun w => by kernel_rfl) _ (putT_any s x _ _ w1 HSD.out (HL.out.keep (HB.out.trans (hS.mono HB.out.size)) HSZ.out) (tab_small HM4.out) (HU5_6.out.keep hS)) hS (fun _ _ ⟨zz, a, b⟩ => ⟨zz, uS.trans a, b⟩)
   ·intro f w1 hS hf aA hA
    obtain ⟨x122, hx122, hr122⟩ := hf 2 (by decide)
    have e122 : aA.eval (.tmp 122) = .agg #[.int .u64 (s : Int), x122] := pA 122 2 hA sbSyt16 (by kernel_rfl) zsz rfl hx122
    exact fC rfl rfl 15 #[(.tmp 122)] _ rfl #[.agg #[.int .u64 (s : Int), x122]] (mp1 e122) (fun w => by kernel_rfl) _ (tableOf_any s _ _ w1 (Nat.le_trans (lay_small5 HM4.out) (show 10000 ≤ 100000 by decide)) hr122) hS (fun _ _ ⟨zz, a, b⟩ => ⟨zz, uS.trans a, b⟩)
   ·intro f w1 hS hf aA hA
    have r13 : aA.eval (.tmp 13) = .pointer (some ⟨b6_9, 0, none⟩) := pO 13 hA (by kernel_rfl) z13
    exact fV rfl rfl (.agg #[.int .u64 (s : Int), v6_7]) (ex_loadR 37 (.tmp 13) rfl ⟨b6_9, 0, none⟩ r13 (fun _ => by kernel_rfl) [.int .u64 (s : Int), v6_7] (by kernel_rfl) ((HX_b6_9.out.keepB hS).part [.int .u64 (s : Int), v6_7] 0 (fun j u hu => by rw [Nat.zero_add]; exact hu))) hS uS
   ·intro f w1 hS hf aA hA
    have r24 : aA.eval (.tmp 24) = .pointer (some ⟨b15_3, 0, none⟩) := pO 24 hA (by kernel_rfl) z24
    exact fV rfl rfl (.agg (encU x).toArray) (ex_loadR 52 (.tmp 24) rfl ⟨b15_3, 0, none⟩ r24 (fun _ => by kernel_rfl) (encU x) (by rw [encU_len]; kernel_rfl) ((HX_b15_3.out.keepB hS).part (encU x) 0 (encU_all' x))) hS uS
   ·intro f w1 hS hf aA hA
    have r124 : aA.eval (.tmp 124) = .agg #[.int .u64 (s : Int), v6_7] := pA 124 4 hA sbSyt16 (by kernel_rfl) zsz rfl (hf 4 (by decide))
    have r125 : aA.eval (.tmp 125) = .agg (encU x).toArray := pA 125 5 hA sbSyt16 (by kernel_rfl) zsz rfl (hf 5 (by decide))
    exact fC rfl rfl 22 #[(.tmp 124), (.tmp 125), _] _ rfl #[.agg #[.int .u64 (s : Int), v6_7], .agg (encU x).toArray, .int .i64 1] (by simp only [List.map_toArray, List.map_cons, List.map_nil, r124, r125]; rfl) (fun w => by kernel_rfl) _ (rputT_any s x 1 _ _ putC w1 HSD.out (fun _ _ => rfl) (tab_small HM4.out) (HU6_7.out.keep hS)) hS (fun _ _ ⟨zz, a, b⟩ => ⟨zz, uS.trans a, b⟩)
   ·intro f w1 hS hf aA hA
    obtain ⟨x123, hx123, hr123⟩ := hf 3 (by decide)
    have e123 : aA.eval (.tmp 123) = .agg #[.int .u64 (s : Int), x123] := pA 123 3 hA sbSyt16 (by kernel_rfl) zsz rfl hx123
    obtain ⟨x126, hx126, hr126⟩ := hf 6 (by decide)
    have e126 : aA.eval (.tmp 126) = .agg #[.int .u64 (s : Int), x126] := pA 126 6 hA sbSyt16 (by kernel_rfl) zsz rfl hx126
    exact fC rfl rfl 14 #[(.tmp 123), (.tmp 126)] _ rfl #[.agg #[.int .u64 (s : Int), x123], .agg #[.int .u64 (s : Int), x126]] (mp2 e123 e126) (fun w => by kernel_rfl) _ (sameT_any _ _ _ _ w1 (lay_small HM4.out) hr123 hr126) hS (fun _ _ h => uS.trans h)
   ·intro f w1 hS hf aA hA
    have r127 : aA.eval (.tmp 127) = .bool true := pA 127 7 hA sbSyt16 (by kernel_rfl) zsz rfl (hf 7 (by decide))
    exact fV rfl rfl (.bool true) (ex_move (.tmp 127) rfl r127) hS uS
   ·intro f w1 hS hf aA hA
    have t128 : aA.tmps[128]? = some (.bool true) := pG 128 8 hA sbSyt16 (by kernel_rfl) zsz rfl (hf 8 (by decide))
    have r11 : aA.eval (.tmp 11) = .pointer (some ⟨b5_8, 0, none⟩) := pO 11 hA (by kernel_rfl) z11
    exact fV rfl ((wanted_of rfl 128 rfl t128).trans rfl) (.agg #[.int .u64 (s : Int), v5_6]) (ex_loadR 26 (.tmp 11) rfl ⟨b5_8, 0, none⟩ r11 (fun _ => by kernel_rfl) [.int .u64 (s : Int), v5_6] (by kernel_rfl) ((HX_b5_8.out.keepB hS).part [.int .u64 (s : Int), v5_6] 0 (fun j u hu => by rw [Nat.zero_add]; exact hu))) hS uS
   ·intro f w1 hS hf aA hA
    have t128 : aA.tmps[128]? = some (.bool true) := pG 128 8 hA sbSyt16 (by kernel_rfl) zsz rfl (hf 8 (by decide))
    have r23 : aA.eval (.tmp 23) = .pointer (some ⟨b15_2, 0, none⟩) := pO 23 hA (by kernel_rfl) z23
    exact fV rfl ((wanted_of rfl 128 rfl t128).trans rfl) (.agg (encU x).toArray) (ex_loadR 41 (.tmp 23) rfl ⟨b15_2, 0, none⟩ r23 (fun _ => by kernel_rfl) (encU x) (by rw [encU_len]; kernel_rfl) ((HX_b15_2.out.keepB hS).part (encU x) 0 (encU_all' x))) hS uS
   ·intro f w1 hS hf aA hA
    have t128 : aA.tmps[128]? = some (.bool true) := pG 128 8 hA sbSyt16 (by kernel_rfl) zsz rfl (hf 8 (by decide))
    have r129 : aA.eval (.tmp 129) = .agg #[.int .u64 (s : Int), v5_6] := pA 129 9 hA sbSyt16 (by kernel_rfl) zsz rfl (hf 9 (by decide))
    have r130 : aA.eval (.tmp 130) = .agg (encU x).toArray := pA 130 10 hA sbSyt16 (by kernel_rfl) zsz rfl (hf 10 (by decide))
    exact fC rfl ((wanted_of rfl 128 rfl t128).trans rfl) 17 #[(.tmp 129), (.tmp 130)] _ rfl #[.agg #[.int .u64 (s : Int), v5_6], .agg (encU x).toArray] (mp2 r129 r130) (fun w => by kernel_rfl) _ (takeT_any s x _ _ w1 HSD.out (HL.out.keep (HB.out.trans (hS.mono HB.out.size)) HSZ.out) (tab_small HM4.out) (HU5_6.out.keep hS)) hS (fun _ _ ⟨zz, a, b⟩ => ⟨zz, uS.trans a, b⟩)
   ·intro f w1 hS hf aA hA
    have t128 : aA.tmps[128]? = some (.bool true) := pG 128 8 hA sbSyt16 (by kernel_rfl) zsz rfl (hf 8 (by decide))
    obtain ⟨x131, hx131, hr131⟩ := hf 11 (by decide)
    have e131 : aA.eval (.tmp 131) = .agg #[.int .u64 (s : Int), x131] := pA 131 11 hA sbSyt16 (by kernel_rfl) zsz rfl hx131
    exact fC rfl ((wanted_of rfl 128 rfl t128).trans rfl) 15 #[(.tmp 131)] _ rfl #[.agg #[.int .u64 (s : Int), x131]] (mp1 e131) (fun w => by kernel_rfl) _ (tableOf_any s _ _ w1 (Nat.le_trans (lay_small5 HM4.out) (show 10000 ≤ 100000 by decide)) hr131) hS (fun _ _ ⟨zz, a, b⟩ => ⟨zz, uS.trans a, b⟩)
   ·intro f w1 hS hf aA hA
    have t128 : aA.tmps[128]? = some (.bool true) := pG 128 8 hA sbSyt16 (by kernel_rfl) zsz rfl (hf 8 (by decide))
    have r13 : aA.eval (.tmp 13) = .pointer (some ⟨b6_9, 0, none⟩) := pO 13 hA (by kernel_rfl) z13
    exact fV rfl ((wanted_of rfl 128 rfl t128).trans rfl) (.agg #[.int .u64 (s : Int), v6_7]) (ex_loadR 37 (.tmp 13) rfl ⟨b6_9, 0, none⟩ r13 (fun _ => by kernel_rfl) [.int .u64 (s : Int), v6_7] (by kernel_rfl) ((HX_b6_9.out.keepB hS).part [.int .u64 (s : Int), v6_7] 0 (fun j u hu => by rw [Nat.zero_add]; exact hu))) hS uS
   ·intro f w1 hS hf aA hA
    have t128 : aA.tmps[128]? = some (.bool true) := pG 128 8 hA sbSyt16 (by kernel_rfl) zsz rfl (hf 8 (by decide))
    have r24 : aA.eval (.tmp 24) = .pointer (some ⟨b15_3, 0, none⟩) := pO 24 hA (by kernel_rfl) z24
    exact fV rfl ((wanted_of rfl 128 rfl t128).trans rfl) (.agg (encU x).toArray) (ex_loadR 52 (.tmp 24) rfl ⟨b15_3, 0, none⟩ r24 (fun _ => by kernel_rfl) (encU x) (by rw [encU_len]; kernel_rfl) ((HX_b15_3.out.keepB hS).part (encU x) 0 (encU_all' x))) hS uS
   ·intro f w1 hS hf aA hA
    have t128 : aA.tmps[128]? = some (.bool true) := pG 128 8 hA sbSyt16 (by kernel_rfl) zsz rfl (hf 8 (by decide))
    have r133 : aA.eval (.tmp 133) = .agg #[.int .u64 (s : Int), v6_7] := pA 133 13 hA sbSyt16 (by kernel_rfl) zsz rfl (hf 13 (by decide))
    have r134 : aA.eval (.tmp 134) = .agg (encU x).toArray := pA 134 14 hA sbSyt16 (by kernel_rfl) zsz rfl (hf 14 (by decide))
    exact fC rfl ((wanted_of rfl 128 rfl t128).trans rfl) 22 #[(.tmp 133), (.tmp 134), _] _ rfl #[.agg #[.int .u64 (s : Int), v6_7], .agg (encU x).toArray, .int .i64 ((-1))] (by simp only [List.map_toArray, List.map_cons, List.map_nil, r133, r134]; rfl) (fun w => by kernel_rfl) _ (rputT_any s x ((-1)) _ _ takeC w1 HSD.out (fun _ _ => rfl) (tab_small HM4.out) (HU6_7.out.keep hS)) hS (fun _ _ ⟨zz, a, b⟩ => ⟨zz, uS.trans a, b⟩)
   ·intro f w1 hS hf aA hA
    have t128 : aA.tmps[128]? = some (.bool true) := pG 128 8 hA sbSyt16 (by kernel_rfl) zsz rfl (hf 8 (by decide))
    obtain ⟨x132, hx132, hr132⟩ := hf 12 (by decide)
    have e132 : aA.eval (.tmp 132) = .agg #[.int .u64 (s : Int), x132] := pA 132 12 hA sbSyt16 (by kernel_rfl) zsz rfl hx132
    obtain ⟨x135, hx135, hr135⟩ := hf 15 (by decide)
    have e135 : aA.eval (.tmp 135) = .agg #[.int .u64 (s : Int), x135] := pA 135 15 hA sbSyt16 (by kernel_rfl) zsz rfl hx135
    exact fC rfl ((wanted_of rfl 128 rfl t128).trans rfl) 14 #[(.tmp 132), (.tmp 135)] _ rfl #[.agg #[.int .u64 (s : Int), x132], .agg #[.int .u64 (s : Int), x135]] (mp2 e132 e135) (fun w => by kernel_rfl) _ (sameT_any _ _ _ _ w1 (lay_small HM4.out) hr132 hr135) hS (fun _ _ h => uS.trans h)
   ·intro f w1 hS hf aA hA
    have r128 : aA.eval (.tmp 128) = .bool true := pA 128 8 hA sbSyt16 (by kernel_rfl) zsz rfl (hf 8 (by decide))
    have r136 : aA.eval (.tmp 136) = .bool true := pA 136 16 hA sbSyt16 (by kernel_rfl) zsz rfl (hf 16 (by decide))
    exact fV rfl rfl (.bool true) (ex_pick (.tmp 128) (.tmp 136) _ rfl true r128 ((if_pos rfl).trans r136)) hS uS
   ·intro f w1 hS hf aA hA
    have r137 : aA.eval (.tmp 137) = .bool true := pA 137 17 hA sbSyt16 (by kernel_rfl) zsz rfl (hf 17 (by decide))
    exact fV rfl rfl (.bool true) (ex_move (.tmp 137) rfl r137) hS uS
   ·intro f w1 hS hf aA hA
    have t138 : aA.tmps[138]? = some (.bool true) := pG 138 18 hA sbSyt16 (by kernel_rfl) zsz rfl (hf 18 (by decide))
    have r19 : aA.eval (.tmp 19) = .pointer (some ⟨b9_6, 0, none⟩) := pO 19 hA (by kernel_rfl) z19
    exact fV rfl ((wanted_of rfl 138 rfl t138).trans rfl) (.agg #[.int .u64 (s : Int), v9_4]) (ex_loadR 26 (.tmp 19) rfl ⟨b9_6, 0, none⟩ r19 (fun _ => by kernel_rfl) [.int .u64 (s : Int), v9_4] (by kernel_rfl) ((HX_b9_6.out.keepB hS).part [.int .u64 (s : Int), v9_4] 0 (fun j u hu => by rw [Nat.zero_add]; exact hu))) hS uS
   ·intro f w1 hS hf aA hA
    have t138 : aA.tmps[138]? = some (.bool true) := pG 138 18 hA sbSyt16 (by kernel_rfl) zsz rfl (hf 18 (by decide))
    have r139 : aA.eval (.tmp 139) = .agg #[.int .u64 (s : Int), v9_4] := pA 139 19 hA sbSyt16 (by kernel_rfl) zsz rfl (hf 19 (by decide))
    exact fC rfl ((wanted_of rfl 138 rfl t138).trans rfl) 12 #[(.tmp 139)] _ rfl #[.agg #[.int .u64 (s : Int), v9_4]] (mp1 r139) (fun w => by kernel_rfl) _ (zeroT_any _ _ _ w1 (zip_small HM4.out) (HU9_4.out.keep hS)) hS (fun _ _ h => uS.trans h)
   ·intro f w1 hS hf aA hA
    have t138 : aA.tmps[138]? = some (.bool true) := pG 138 18 hA sbSyt16 (by kernel_rfl) zsz rfl (hf 18 (by decide))
    have r21 : aA.eval (.tmp 21) = .pointer (some ⟨b10_6, 0, none⟩) := pO 21 hA (by kernel_rfl) z21
    exact fV rfl ((wanted_of rfl 138 rfl t138).trans rfl) (.agg #[.int .u64 (s : Int), v10_4]) (ex_loadR 37 (.tmp 21) rfl ⟨b10_6, 0, none⟩ r21 (fun _ => by kernel_rfl) [.int .u64 (s : Int), v10_4] (by kernel_rfl) ((HX_b10_6.out.keepB hS).part [.int .u64 (s : Int), v10_4] 0 (fun j u hu => by rw [Nat.zero_add]; exact hu))) hS uS
   ·intro f w1 hS hf aA hA
    have t138 : aA.tmps[138]? = some (.bool true) := pG 138 18 hA sbSyt16 (by kernel_rfl) zsz rfl (hf 18 (by decide))
    have r141 : aA.eval (.tmp 141) = .agg #[.int .u64 (s : Int), v10_4] := pA 141 21 hA sbSyt16 (by kernel_rfl) zsz rfl (hf 21 (by decide))
    exact fC rfl ((wanted_of rfl 138 rfl t138).trans rfl) 23 #[(.tmp 141)] _ rfl #[.agg #[.int .u64 (s : Int), v10_4]] (mp1 r141) (fun w => by kernel_rfl) _ (rzeroT_any _ _ _ w1 (zip_small HM4.out) (HU10_4.out.keep hS)) hS (fun _ _ h => uS.trans h)
   ·intro f w1 hS hf aA hA
    have t138 : aA.tmps[138]? = some (.bool true) := pG 138 18 hA sbSyt16 (by kernel_rfl) zsz rfl (hf 18 (by decide))
    have r140 : aA.eval (.tmp 140) = .bool (zeroT (List.zipWith minusC (tab s m (srt (A))) (tab s m (srt (B))))) := pA 140 20 hA sbSyt16 (by kernel_rfl) zsz rfl (hf 20 (by decide))
    have r142 : aA.eval (.tmp 142) = .bool (zeroT (List.zipWith minusC (tab s m (srt (A))) (tab s m (srt (B))))) := pA 142 22 hA sbSyt16 (by kernel_rfl) zsz rfl (hf 22 (by decide))
    exact fV rfl ((wanted_of rfl 138 rfl t138).trans rfl) (.bool true) (Eq.trans (ex_eqB _ _ (.tmp 140) (.tmp 142) rfl (by kernel_rfl) (zeroT (List.zipWith minusC (tab s m (srt (A))) (tab s m (srt (B))))) (zeroT (List.zipWith minusC (tab s m (srt (A))) (tab s m (srt (B))))) r140 r142) (by rw [(beq_self_eq_true (zeroT (List.zipWith minusC (tab s m (srt (A))) (tab s m (srt (B))))))])) hS uS
   ·intro f w1 hS hf aA hA
    have r138 : aA.eval (.tmp 138) = .bool true := pA 138 18 hA sbSyt16 (by kernel_rfl) zsz rfl (hf 18 (by decide))
    have r143 : aA.eval (.tmp 143) = .bool true := pA 143 23 hA sbSyt16 (by kernel_rfl) zsz rfl (hf 23 (by decide))
    exact fV rfl rfl (.bool true) (ex_pick (.tmp 138) (.tmp 143) _ rfl true r138 ((if_pos rfl).trans r143)) hS uS
   ·intro f w1 hS hf aA hA
    have r144 : aA.eval (.tmp 144) = .bool true := pA 144 24 hA sbSyt16 (by kernel_rfl) zsz rfl (hf 24 (by decide))
    exact fV rfl rfl (.bool true) (ex_move (.tmp 144) rfl r144) hS uS
   ·intro f w1 hS hf aA hA
    have t145 : aA.tmps[145]? = some (.bool true) := pG 145 25 hA sbSyt16 (by kernel_rfl) zsz rfl (hf 25 (by decide))
    have r19 : aA.eval (.tmp 19) = .pointer (some ⟨b9_6, 0, none⟩) := pO 19 hA (by kernel_rfl) z19
    exact fV rfl ((wanted_of rfl 145 rfl t145).trans rfl) (.agg #[.int .u64 (s : Int), v9_4]) (ex_loadR 26 (.tmp 19) rfl ⟨b9_6, 0, none⟩ r19 (fun _ => by kernel_rfl) [.int .u64 (s : Int), v9_4] (by kernel_rfl) ((HX_b9_6.out.keepB hS).part [.int .u64 (s : Int), v9_4] 0 (fun j u hu => by rw [Nat.zero_add]; exact hu))) hS uS
   ·intro f w1 hS hf aA hA
    have t145 : aA.tmps[145]? = some (.bool true) := pG 145 25 hA sbSyt16 (by kernel_rfl) zsz rfl (hf 25 (by decide))
    have r146 : aA.eval (.tmp 146) = .agg #[.int .u64 (s : Int), v9_4] := pA 146 26 hA sbSyt16 (by kernel_rfl) zsz rfl (hf 26 (by decide))
    exact fC rfl ((wanted_of rfl 145 rfl t145).trans rfl) 13 #[(.tmp 146)] _ rfl #[.agg #[.int .u64 (s : Int), v9_4]] (mp1 r146) (fun w => by kernel_rfl) _ (countT_any _ _ _ w1 (zip_small HM4.out) (HU9_4.out.keep hS)) hS (fun _ _ h => uS.trans h)
   ·intro f w1 hS hf aA hA
    have t145 : aA.tmps[145]? = some (.bool true) := pG 145 25 hA sbSyt16 (by kernel_rfl) zsz rfl (hf 25 (by decide))
    have r21 : aA.eval (.tmp 21) = .pointer (some ⟨b10_6, 0, none⟩) := pO 21 hA (by kernel_rfl) z21
    exact fV rfl ((wanted_of rfl 145 rfl t145).trans rfl) (.agg #[.int .u64 (s : Int), v10_4]) (ex_loadR 37 (.tmp 21) rfl ⟨b10_6, 0, none⟩ r21 (fun _ => by kernel_rfl) [.int .u64 (s : Int), v10_4] (by kernel_rfl) ((HX_b10_6.out.keepB hS).part [.int .u64 (s : Int), v10_4] 0 (fun j u hu => by rw [Nat.zero_add]; exact hu))) hS uS
   ·intro f w1 hS hf aA hA
    have t145 : aA.tmps[145]? = some (.bool true) := pG 145 25 hA sbSyt16 (by kernel_rfl) zsz rfl (hf 25 (by decide))
    have r148 : aA.eval (.tmp 148) = .agg #[.int .u64 (s : Int), v10_4] := pA 148 28 hA sbSyt16 (by kernel_rfl) zsz rfl (hf 28 (by decide))
    exact fC rfl ((wanted_of rfl 145 rfl t145).trans rfl) 24 #[(.tmp 148)] _ rfl #[.agg #[.int .u64 (s : Int), v10_4]] (mp1 r148) (fun w => by kernel_rfl) _ (rcountT_any _ _ _ w1 (zip_good HGM.out) (zip_small HM4.out) (HU10_4.out.keep hS)) hS (fun _ _ h => uS.trans h)
   ·intro f w1 hS hf aA hA
    have t145 : aA.tmps[145]? = some (.bool true) := pG 145 25 hA sbSyt16 (by kernel_rfl) zsz rfl (hf 25 (by decide))
    have r147 : aA.eval (.tmp 147) = .int .i64 (cntT (List.zipWith minusC (tab s m (srt (A))) (tab s m (srt (B))))) := pA 147 27 hA sbSyt16 (by kernel_rfl) zsz rfl (hf 27 (by decide))
    have r149 : aA.eval (.tmp 149) = .int .i64 (cntT (List.zipWith minusC (tab s m (srt (A))) (tab s m (srt (B))))) := pA 149 29 hA sbSyt16 (by kernel_rfl) zsz rfl (hf 29 (by decide))
    exact fV rfl ((wanted_of rfl 145 rfl t145).trans rfl) (.bool true) (Eq.trans (ex_int .eql _ _ (.tmp 147) (.tmp 149) rfl .i64 (cntT (List.zipWith minusC (tab s m (srt (A))) (tab s m (srt (B))))) (cntT (List.zipWith minusC (tab s m (srt (A))) (tab s m (srt (B))))) r147 r149 (.bool ((cntT (List.zipWith minusC (tab s m (srt (A))) (tab s m (srt (B))))) == (cntT (List.zipWith minusC (tab s m (srt (A))) (tab s m (srt (B))))))) (fun _ => rfl)) (by rw [(beq_self_eq_true (cntT (List.zipWith minusC (tab s m (srt (A))) (tab s m (srt (B))))))])) hS uS
   ·intro f w1 hS hf aA hA
    have r145 : aA.eval (.tmp 145) = .bool true := pA 145 25 hA sbSyt16 (by kernel_rfl) zsz rfl (hf 25 (by decide))
    have r150 : aA.eval (.tmp 150) = .bool true := pA 150 30 hA sbSyt16 (by kernel_rfl) zsz rfl (hf 30 (by decide))
    exact fV rfl rfl (.bool true) (ex_pick (.tmp 145) (.tmp 150) _ rfl true r145 ((if_pos rfl).trans r150)) hS uS
   ·intro f w1 hS hf aA hA
    have r151 : aA.eval (.tmp 151) = .bool true := pA 151 31 hA sbSyt16 (by kernel_rfl) zsz rfl (hf 31 (by decide))
    exact fV rfl rfl (.bool true) (ex_move (.tmp 151) rfl r151) hS uS
   ·intro f w1 hS hf aA hA
    have t152 : aA.tmps[152]? = some (.bool true) := pG 152 32 hA sbSyt16 (by kernel_rfl) zsz rfl (hf 32 (by decide))
    have r11 : aA.eval (.tmp 11) = .pointer (some ⟨b5_8, 0, none⟩) := pO 11 hA (by kernel_rfl) z11
    exact fV rfl ((wanted_of rfl 152 rfl t152).trans rfl) (.agg #[.int .u64 (s : Int), v5_6]) (ex_loadR 26 (.tmp 11) rfl ⟨b5_8, 0, none⟩ r11 (fun _ => by kernel_rfl) [.int .u64 (s : Int), v5_6] (by kernel_rfl) ((HX_b5_8.out.keepB hS).part [.int .u64 (s : Int), v5_6] 0 (fun j u hu => by rw [Nat.zero_add]; exact hu))) hS uS
   ·intro f w1 hS hf aA hA
    have t152 : aA.tmps[152]? = some (.bool true) := pG 152 32 hA sbSyt16 (by kernel_rfl) zsz rfl (hf 32 (by decide))
    have r153 : aA.eval (.tmp 153) = .agg #[.int .u64 (s : Int), v5_6] := pA 153 33 hA sbSyt16 (by kernel_rfl) zsz rfl (hf 33 (by decide))
    exact fC rfl ((wanted_of rfl 152 rfl t152).trans rfl) 11 #[(.tmp 153)] _ rfl #[.agg #[.int .u64 (s : Int), v5_6]] (mp1 r153) (fun w => by kernel_rfl) _ (as_any (goodT_any _ _ _ w1 (HU5_6.out.keep hS)) (congrArg Value.bool (tab_good HGM.out))) hS (fun _ _ h => uS.trans h)
   ·intro f w1 hS hf aA hA
    have r152 : aA.eval (.tmp 152) = .bool true := pA 152 32 hA sbSyt16 (by kernel_rfl) zsz rfl (hf 32 (by decide))
    have r154 : aA.eval (.tmp 154) = .bool true := pA 154 34 hA sbSyt16 (by kernel_rfl) zsz rfl (hf 34 (by decide))
    exact fV rfl rfl (.bool true) (ex_pick (.tmp 152) (.tmp 154) _ rfl true r152 ((if_pos rfl).trans r154)) hS uS
   ·intro f w1 hS hf aA hA
    have r155 : aA.eval (.tmp 155) = .bool true := pA 155 35 hA sbSyt16 (by kernel_rfl) zsz rfl (hf 35 (by decide))
    exact fV rfl rfl (.bool true) (ex_assign (.tmp 155) rfl r155) hS uS
  intro f u16 hS hf hap
  have h0 : f 0 = .agg #[.int .u64 (s : Int), v5_6] := hf 0 (by decide)
  have h1 : f 1 = .agg (encU x).toArray := hf 1 (by decide)
  obtain ⟨v16_2, h2, hu2⟩ := hf 2 (by decide)
  have HU16_2 := Lib.hid hu2
  clear hu2
  obtain ⟨v16_3, h3, hu3⟩ := hf 3 (by decide)
  have HU16_3 := Lib.hid hu3
  clear hu3
  have h4 : f 4 = .agg #[.int .u64 (s : Int), v6_7] := hf 4 (by decide)
  have h5 : f 5 = .agg (encU x).toArray := hf 5 (by decide)
  obtain ⟨v16_6, h6, hu6⟩ := hf 6 (by decide)
  have HU16_6 := Lib.hid hu6
  clear hu6
  have h7 : f 7 = .bool true := hf 7 (by decide)
  have h8 : f 8 = .bool true := hf 8 (by decide)
  have h9 : f 9 = .agg #[.int .u64 (s : Int), v5_6] := hf 9 (by decide)
  have h10 : f 10 = .agg (encU x).toArray := hf 10 (by decide)
  obtain ⟨v16_11, h11, hu11⟩ := hf 11 (by decide)
  have HU16_11 := Lib.hid hu11
  clear hu11
  obtain ⟨v16_12, h12, hu12⟩ := hf 12 (by decide)
  have HU16_12 := Lib.hid hu12
  clear hu12
  have h13 : f 13 = .agg #[.int .u64 (s : Int), v6_7] := hf 13 (by decide)
  have h14 : f 14 = .agg (encU x).toArray := hf 14 (by decide)
  obtain ⟨v16_15, h15, hu15⟩ := hf 15 (by decide)
  have HU16_15 := Lib.hid hu15
  clear hu15
  have h16 : f 16 = .bool true := hf 16 (by decide)
  have h17 : f 17 = .bool true := hf 17 (by decide)
  have h18 : f 18 = .bool true := hf 18 (by decide)
  have h19 : f 19 = .agg #[.int .u64 (s : Int), v9_4] := hf 19 (by decide)
  have h20 : f 20 = .bool (zeroT (List.zipWith minusC (tab s m (srt (A))) (tab s m (srt (B))))) := hf 20 (by decide)
  have h21 : f 21 = .agg #[.int .u64 (s : Int), v10_4] := hf 21 (by decide)
  have h22 : f 22 = .bool (zeroT (List.zipWith minusC (tab s m (srt (A))) (tab s m (srt (B))))) := hf 22 (by decide)
  have h23 : f 23 = .bool true := hf 23 (by decide)
  have h24 : f 24 = .bool true := hf 24 (by decide)
  have h25 : f 25 = .bool true := hf 25 (by decide)
  have h26 : f 26 = .agg #[.int .u64 (s : Int), v9_4] := hf 26 (by decide)
  have h27 : f 27 = .int .i64 (cntT (List.zipWith minusC (tab s m (srt (A))) (tab s m (srt (B))))) := hf 27 (by decide)
  have h28 : f 28 = .agg #[.int .u64 (s : Int), v10_4] := hf 28 (by decide)
  have h29 : f 29 = .int .i64 (cntT (List.zipWith minusC (tab s m (srt (A))) (tab s m (srt (B))))) := hf 29 (by decide)
  have h30 : f 30 = .bool true := hf 30 (by decide)
  have h31 : f 31 = .bool true := hf 31 (by decide)
  have h32 : f 32 = .bool true := hf 32 (by decide)
  have h33 : f 33 = .agg #[.int .u64 (s : Int), v5_6] := hf 33 (by decide)
  have h34 : f 34 = .bool true := hf 34 (by decide)
  have h35 : f 35 = .bool true := hf 35 (by decide)
  have h36 : f 36 = .bool true := hf 36 (by decide)
  clear hf hap
  clear zsz z11 z23 z13 z24 z19 z21
  subst ha0
  simp only [slotsSyt16, putAll, h0, h1, h2, h3, h4, h5, h6, h7, h8, h9, h10, h11, h12, h13, h14, h15, h16, h17, h18, h19, h20, h21, h22, h23, h24, h25, h26, h27, h28, h29, h30, h31, h32, h33, h34, h35, h36, Act.put, List.setIfInBounds_toArray, List.set_cons_zero, List.set_cons_succ]
  clear h0 h1 h2 h3 h4 h5 h6 h7 h8 h9 h10 h11 h12 h13 h14 h15 h16 h17 h18 h19 h20 h21 h22 h23 h24 h25 h26 h27 h28 h29 h30 h31 h32 h33 h34 h35 h36
  refine tl_nilN ?_
  replace HX1 := Lib.hid (HX1.out.keepB hS)
  replace HX_b5_8 := Lib.hid (HX_b5_8.out.keepB hS)
  replace HU5_6 := Lib.hid (HU5_6.out.keep hS)
  replace HX_b6_9 := Lib.hid (HX_b6_9.out.keepB hS)
  replace HU6_7 := Lib.hid (HU6_7.out.keep hS)
  replace HX_b9_6 := Lib.hid (HX_b9_6.out.keepB hS)
  replace HU9_4 := Lib.hid (HU9_4.out.keep hS)
  replace HX_b10_6 := Lib.hid (HX_b10_6.out.keepB hS)
  replace HU10_4 := Lib.hid (HU10_4.out.keep hS)
  replace HU11_15 := Lib.hid (HU11_15.out.keep hS)
  replace HU11_22 := Lib.hid (HU11_22.out.keep hS)
  replace HX_b15_2 := Lib.hid (HX_b15_2.out.keepB hS)
  replace HX_b15_3 := Lib.hid (HX_b15_3.out.keepB hS)
  replace HB := Lib.hid (HB.out.trans (hS.mono HB.out.size))
  clear hS
  go_wp2_with fail
  go_ret
  exact ⟨rfl, HB.out⟩
theorem tableSays_law (s : Nat) (n : Int) (x : Su) (A B : List Su) (qa qb : Option Addr) (ca cb : Nat) (w : World) (hs : s < 18446744073709551616) (hL : Laid w) (ha : Sees w w.heap.size qa (rowU A)) (hb : Sees w w.heap.size qb (rowU B)) : Calls Tryd.prog 4 #[.int .u64 (s : Int), .int .i64 n, .slice qa A.length ca, .slice qb B.length cb, .agg (encU x).toArray] w fun e w' => e = .returned (.bool true) ∧ Below w.heap.size w w' := tableSays_b s n x A B qa qb ca cb w w (Below.refl _ _) hs hL ha hb
end Go.Proofs.YtepeloenijlnhaaDoor
