/- The law PeelOne: it answers true. Conditions: the sums' tables are laid; a seed of 64 bits; what comes in lies in memory. -/
import Derived.Test.YtnkcehmgagpadabDoorSq
import Derived.Test.YtnkcehmgagpadabDoorQw
namespace Go.Proofs.YtnkcehmgagpadabDoor
open Go.RowKit
theorem asc_y (y : Su) : AscU [y] := asc_srt [y]
theorem good_asc {A : List Su} (h : AscU A) (hl : A.length ≤ 512) : goodU A = true := by unfold goodU; rw [decide_eq_true hl, decide_eq_true h]; rfl
theorem on_more (S : List Su) (y : Su) : minU (eitU S [y]) (minU S [y]) = [y] := ascU_unique (asc_minU _ _) (asc_y y) fun z => by
 rw [mem_minU, mem_eitU, mem_minU, List.mem_singleton]
 by_cases h1 : z ∈ S <;> by_cases h2 : z = y <;> simp [h1, h2]
theorem on_less (S : List Su) (y : Su) : minU (minU S [y]) (eitU S [y]) = [] := ascU_unique (asc_minU _ _) List.Pairwise.nil fun z => by
 rw [mem_minU, mem_eitU, mem_minU, List.mem_singleton]
 by_cases h1 : z ∈ S <;> by_cases h2 : z = y <;> simp [h1, h2]
theorem on_okm {m : Nat} (hg : goodN (m : Int) = true) (S : List Su) (y : Su) : ownB (minU S [y]) (List.replicate m zC, [y], []) = true := ownB_of hg (by simp) (fun _ h => by cases h) (fun z hz => by
 rw [List.mem_singleton.1 hz, mem_minU]
 rintro ⟨_, h⟩; exact h (List.mem_singleton.2 rfl))
theorem on_okl {m : Nat} (hg : goodN (m : Int) = true) (S : List Su) (y : Su) : ownB (eitU S [y]) (List.replicate m zC, [], [y]) = true := ownB_of hg (by simp) (fun z hz => by
 rw [List.mem_singleton.1 hz, mem_eitU]; exact .inr (List.mem_singleton.2 rfl)) (fun _ h => by cases h)
def waitOn1 (i : Nat) : List Nat := ([[], [0]] : List (List Nat)).getD i []
def slotsOn1 : List (Nat × Nat) := [(23, 0), (24, 1)]
theorem sbOn1 : slotsB slotsOn1 = true := by kernel_rfl
theorem chkOn1 : flwO slotsOn1 waitOn1 2 (regOf Tryd.f3.body 1) = true := by kernel_rfl
def waitOn5 (i : Nat) : List Nat := ([[], [0], [1]] : List (List Nat)).getD i []
def slotsOn5 : List (Nat × Nat) := [(32, 0), (33, 1), (9, 2)]
theorem sbOn5 : slotsB slotsOn5 = true := by kernel_rfl
theorem chkOn5 : flwO slotsOn5 waitOn5 3 (regOf Tryd.f3.body 5) = true := by kernel_rfl
def waitOn6 (i : Nat) : List Nat := ([[], [0], [1], [2]] : List (List Nat)).getD i []
def slotsOn6 : List (Nat × Nat) := [(34, 0), (35, 1), (36, 2), (10, 3)]
theorem sbOn6 : slotsB slotsOn6 = true := by kernel_rfl
theorem chkOn6 : flwO slotsOn6 waitOn6 4 (regOf Tryd.f3.body 6) = true := by kernel_rfl
def waitOn7 (i : Nat) : List Nat := ([[], [], [0, 1], [], [], [3, 4], [2], [5]] : List (List Nat)).getD i []
def slotsOn7 : List (Nat × Nat) := [(37, 0), (38, 1), (39, 2), (40, 3), (41, 4), (42, 5), (11, 6), (12, 7)]
theorem sbOn7 : slotsB slotsOn7 = true := by kernel_rfl
theorem chkOn7 : flwO slotsOn7 waitOn7 8 (regOf Tryd.f3.body 7) = true := by kernel_rfl
def waitOnf8 (i : Nat) : List Nat := ([[], [], [], [0, 1, 2], [3], [4], [4], [], [0, 1, 2, 3, 4, 5, 6, 7], [0, 1, 2, 3, 4, 5, 6, 7, 8]] : List (List Nat)).getD i []
def slotsOnf8 : List (Nat × Nat) := [(44, 0), (45, 1), (46, 2), (47, 3), (43, 4), (48, 5), (49, 6), (13, 7), (14, 9)]
theorem sbOnf8 : slotsB slotsOnf8 = true := by kernel_rfl
theorem chkOnf8 : flwO slotsOnf8 waitOnf8 8 (regOf Tryd.f3.body 8) = true := by kernel_rfl
def waitOnf9 (i : Nat) : List Nat := ([[], [], [], [0, 1, 2], [3], [4], [4], [], [0, 1, 2, 3, 4, 5, 6, 7], [0, 1, 2, 3, 4, 5, 6, 7, 8]] : List (List Nat)).getD i []
def slotsOnf9 : List (Nat × Nat) := [(51, 0), (52, 1), (53, 2), (54, 3), (50, 4), (55, 5), (56, 6), (15, 7), (16, 9)]
theorem sbOnf9 : slotsB slotsOnf9 = true := by kernel_rfl
theorem chkOnf9 : flwO slotsOnf9 waitOnf9 8 (regOf Tryd.f3.body 9) = true := by kernel_rfl
def waitOnf10 (i : Nat) : List Nat := ([[], [0], [1], [2], [2], [2, 4]] : List (List Nat)).getD i []
def slotsOnf10 : List (Nat × Nat) := [(57, 0), (58, 1), (59, 2), (60, 3), (61, 4), (62, 5)]
theorem sbOnf10 : slotsB slotsOnf10 = true := by kernel_rfl
theorem chkOnf10 : flwO slotsOnf10 waitOnf10 6 (regOf Tryd.f3.body 10) = true := by kernel_rfl
def waitOnt8 (i : Nat) : List Nat := ([[], [], [], [0, 1, 2], [3], [4], [4], [], [0, 1, 2, 3, 4, 5, 6, 7], [0, 1, 2, 3, 4, 5, 6, 7, 8]] : List (List Nat)).getD i []
def slotsOnt8 : List (Nat × Nat) := [(44, 0), (45, 1), (46, 2), (47, 3), (43, 4), (48, 5), (49, 6), (13, 7), (14, 9)]
theorem sbOnt8 : slotsB slotsOnt8 = true := by kernel_rfl
theorem chkOnt8 : flwO slotsOnt8 waitOnt8 8 (regOf Tryd.f3.body 8) = true := by kernel_rfl
def waitOnt9 (i : Nat) : List Nat := ([[], [], [], [0, 1, 2], [3], [4], [4], [], [0, 1, 2, 3, 4, 5, 6, 7], [0, 1, 2, 3, 4, 5, 6, 7, 8]] : List (List Nat)).getD i []
def slotsOnt9 : List (Nat × Nat) := [(51, 0), (52, 1), (53, 2), (54, 3), (50, 4), (55, 5), (56, 6), (15, 7), (16, 9)]
theorem sbOnt9 : slotsB slotsOnt9 = true := by kernel_rfl
theorem chkOnt9 : flwO slotsOnt9 waitOnt9 8 (regOf Tryd.f3.body 9) = true := by kernel_rfl
def waitOnt10 (i : Nat) : List Nat := ([[], [0], [1], [2], [2, 3], [2, 4]] : List (List Nat)).getD i []
def slotsOnt10 : List (Nat × Nat) := [(57, 0), (58, 1), (59, 2), (60, 3), (61, 4), (62, 5)]
theorem sbOnt10 : slotsB slotsOnt10 = true := by kernel_rfl
theorem chkOnt10 : flwO slotsOnt10 waitOnt10 6 (regOf Tryd.f3.body 10) = true := by kernel_rfl
def waitOnt12 (i : Nat) : List Nat := ([[], [], [0, 1], [2], [3], [3], [3], [4], [5], [6]] : List (List Nat)).getD i []
def slotsOnt12 : List (Nat × Nat) := [(64, 0), (65, 1), (66, 2), (63, 3), (67, 4), (68, 5), (69, 6), (17, 7), (18, 8), (19, 9)]
theorem sbOnt12 : slotsB slotsOnt12 = true := by kernel_rfl
theorem chkOnt12 : flwO slotsOnt12 waitOnt12 10 (regOf Tryd.f3.body 12) = true := by kernel_rfl
def waitOnt13 (i : Nat) : List Nat := ([[], [], [0, 1], [2], [3], [3], [3], [4], [5], [6]] : List (List Nat)).getD i []
def slotsOnt13 : List (Nat × Nat) := [(71, 0), (72, 1), (73, 2), (70, 3), (74, 4), (75, 5), (76, 6), (20, 7), (21, 8), (22, 9)]
theorem sbOnt13 : slotsB slotsOnt13 = true := by kernel_rfl
theorem chkOnt13 : flwO slotsOnt13 waitOnt13 10 (regOf Tryd.f3.body 13) = true := by kernel_rfl
def waitOnt14 (i : Nat) : List Nat := ([[], [0], [1], [2], [2, 3], [2, 4], [5], [6], [6], [6, 7, 8], [6, 9], [10], [11], [11, 12], [11, 13], [11, 14], [15], [16], [16, 17], [16, 18], [16, 19], [20], [21], [21], [21, 22, 23], [21, 24], [0, 1, 2, 3, 4, 5, 6, 7, 8, 9, 10, 11, 12, 13, 14, 15, 16, 17, 18, 19, 20, 21, 22, 23, 24, 25]] : List (List Nat)).getD i []
def slotsOnt14 : List (Nat × Nat) := [(77, 0), (78, 1), (79, 2), (80, 3), (81, 4), (82, 5), (83, 6), (84, 7), (85, 8), (86, 9), (87, 10), (88, 11), (89, 12), (90, 13), (91, 14), (92, 15), (93, 16), (94, 17), (95, 18), (96, 19), (97, 20), (98, 21), (99, 22), (100, 23), (101, 24), (102, 25), (8, 26)]
theorem sbOnt14 : slotsB slotsOnt14 = true := by kernel_rfl
theorem chkOnt14 : flwO slotsOnt14 waitOnt14 26 (regOf Tryd.f3.body 14) = true := by kernel_rfl
set_option maxHeartbeats 32000000 in
set_option maxRecDepth 100000 in
theorem peelOne_b (s : Nat) (n : Int) (la : List Int) (x : Int) (qa : Option Addr) (ca : Nat) (w w0 : World) (hB : Below w.heap.size w w0) (hs : s < 18446744073709551616) (hL : Laid w) (ha : Sees w w.heap.size qa (la.map fun n => Value.int .i64 n)) : Calls Tryd.prog 3 #[.int .u64 (s : Int), .int .i64 n, .slice qa la.length ca, .int .i64 x] w0 fun e w' => e = .returned (.bool true) ∧ Below w.heap.size w w' := by
 have HB := Lib.hid hB
 clear hB
 have HL := Lib.hid hL
 have HSZ := Lib.hid hL.size
 have HSD := Lib.hid hs
 have HSA : Hid (Ins w (.slice qa la.length ca) la) := Lib.hid ⟨qa, ca, rfl, ha⟩
 clear hL hs ha
 go_enter Tryd.func3, Tryd.ntmps3
 go_upto_region 0 with fail
 refine wp_region_lit ?_
 try simp only [Act.put, List.setIfInBounds_toArray, List.set_cons_zero, List.set_cons_succ]
 refine lp_pure (v := .bool false) rfl (ex_assign _ rfl rfl) ?_
 try simp only [Act.put, List.setIfInBounds_toArray, List.set_cons_zero, List.set_cons_succ]
 refine wpList_nil ?_
 go_upto_region 1 with fail
 refine wp_act (fun a0 ha0 => ?_)
 have zsz : a0.tmps.size = 103 := by rw [ha0]; rfl
 refine wrO [] slotsOn1 waitOn1 [Fct.val Flz 0 (.bool true), Fct.val Flz 1 (.bool false)] (fun w' => Below w0.heap.size w0 w') _ 2 0 chkOn1 (by kernel_rfl) (by kernel_rfl) (by kernel_rfl) (by decide) (Below.refl _ _) ?_ ?_
 ·refine lt_s (lt_s (lt_0) ?_) ?_
  ·intro f w1 hS hf aA hA
   exact fC rfl rfl 4 #[] _ rfl #[] (by kernel_rfl) (fun w => by kernel_rfl) _ (awake16_any w1 (HL.out.keep (HB.out.trans (hS.mono HB.out.size)) HSZ.out)) hS (fun _ _ h => uS.trans h)
  ·intro f w1 hS hf aA hA
   have r23 := pA 23 0 hA sbOn1 (by kernel_rfl) zsz rfl (hf 0 (by decide))
   exact fV rfl rfl _ (ex_not _ (.tmp 23) rfl r23) hS uS
 intro f u1 hS hf hap
 have h0 : f 0 = .bool true := hf 0 (by decide)
 have h1 : f 1 = .bool false := hf 1 (by decide)
 clear hf hap
 clear zsz
 subst ha0
 simp only [slotsOn1, putAll, h0, h1, Act.put, List.setIfInBounds_toArray, List.set_cons_zero, List.set_cons_succ]
 clear h0 h1
 refine tl_nil ?_
 replace HB := Lib.hid (HB.out.trans (hS.mono HB.out.size))
 clear hS
 by_cases h1 : 30 < la.length
 ·have k1 : (30 : Int) < (la.length : Int) := by omega
  go_wp2_with fail
  go_ret
  exact ⟨rfl, HB.out⟩
 have k1 : ¬ (30 : Int) < (la.length : Int) := by omega
 by_cases h3 : 200 < n
 ·go_wp2_with fail
  go_ret
  exact ⟨rfl, HB.out⟩
 have HLA : Hid (la.length ≤ 30) := Lib.hid (by omega)
 clear h1
 have HMO : Hid ((eitU (srt ((la).map fewS)) (srt (([x]).map fewS))).length ≤ 500) := Lib.hid (Nat.le_trans (len_eitU _ _) (by have h5 := len_few la 30 HLA.out; have h6 := len_few [x] 1 (Nat.le_refl _); omega))
 have HLE : Hid ((minU (srt ((la).map fewS)) (srt (([x]).map fewS))).length ≤ 500) := Lib.hid (Nat.le_trans (len_minU _ _) (by have h5 := len_few la 30 HLA.out; omega))
 obtain ⟨gd, hgd⟩ : ∃ gd, goodN n = gd := ⟨_, rfl⟩
 have HGD := Lib.hid hgd
 clear hgd
 go_upto_region 5 with fail
 refine wp_act (fun a0 ha0 => ?_)
 have zsz : a0.tmps.size = 103 := by rw [ha0]; rfl
 have z2 : a0.eval (.tmp 2) = .slice qa la.length ca := by rw [ha0]; rfl
 refine wrO [] slotsOn5 waitOn5 [Fct.val Flz 0 (.slice qa la.length ca), Fct.obj 1 (fun v w => Us w v (srt ((la).map fewS))) (fun _ _ _ h he => h.flz he), (⟨([2, 1], fun f _ => f 2 = f 1), fun f f' _ _ h _ hd => (show f' 2 = f' 1 by rw [hd 2 (by simp), hd 1 (by simp)]; exact h)⟩ : Fct Flz)] (fun w' => Below u1.heap.size u1 w') _ 3 0 chkOn5 (by kernel_rfl) (by kernel_rfl) (by kernel_rfl) (by decide) (Below.refl _ _) ?_ ?_
 ·refine lt_s (lt_s (lt_s (lt_0) ?_) ?_) ?_
  ·intro f w1 hS hf aA hA
   have r2 := pO 2 hA (by kernel_rfl) z2
   exact fV rfl rfl _ (ex_move (.tmp 2) rfl r2) hS uS
  ·intro f w1 hS hf aA hA
   have r32 := pA 32 0 hA sbOn5 (by kernel_rfl) zsz rfl (hf 0 (by decide))
   exact flw_call rfl rfl 5 #[(.tmp 32)] _ rfl #[.slice qa la.length ca] (mp1 r32) (fun w => by kernel_rfl) (fun v w' => Us w' v (srt ((la).map fewS))) (few16_us _ (la) w1 (HL.out.keep (HB.out.trans (hS.mono HB.out.size)) HSZ.out) (Nat.le_trans HLA.out (by decide)) (HSA.out.keep (HB.out.trans (hS.mono HB.out.size)))) (fun v w' hr hb => ⟨hS.trans (hb.mono hS.size), Flz.of hb, (show Us w' (updF f 1 v 1) (srt ((la).map fewS)) by rw [updF_self]; exact hr)⟩)
  ·intro f w1 hS hf aA hA
   have hu1 : Us w1 (f 1) (srt ((la).map fewS)) := (hf 1 (by decide))
   have e33 := pA 33 1 hA sbOn5 (by kernel_rfl) zsz rfl rfl
   exact flw_val rfl rfl (f 1) (ex_assign (.tmp 33) rfl e33) hS (Flz.refl _) (show updF f 2 (f 1) 2 = updF f 2 (f 1) 1 by rw [updF_self, updF_ne f _ (by decide)])
 intro f u5 hS hf hap
 have h0 : f 0 = .slice qa la.length ca := hf 0 (by decide)
 obtain ⟨v5_1, h1, hu1⟩ : ∃ v, f 1 = v ∧ Us u5 v (srt ((la).map fewS)) := ⟨_, rfl, (hf 1 (by decide))⟩
 have HU5_1 := Lib.hid hu1
 clear hu1
 have h2 : f 2 = v5_1 := Eq.trans (hf 2 (by decide)) h1
 clear hf hap
 clear zsz z2
 subst ha0
 simp only [slotsOn5, putAll, h0, h1, h2, Act.put, List.setIfInBounds_toArray, List.set_cons_zero, List.set_cons_succ]
 clear h0 h1 h2
 refine tl_nil ?_
 replace HB := Lib.hid (HB.out.trans (hS.mono HB.out.size))
 clear hS
 go_upto_region 6 with fail
 refine wp_act (fun a0 ha0 => ?_)
 have zsz : a0.tmps.size = 103 := by rw [ha0]; rfl
 have z3 : a0.eval (.tmp 3) = .int .i64 x := by rw [ha0]; rfl
 refine wrO [] slotsOn6 waitOn6 [Fct.val Flz 0 (.int .i64 x), Fct.obj 1 (fun v w => Ins w v ([x])) (fun _ _ _ h he => h.flzT he), Fct.obj 2 (fun v w => Us w v (srt (([x]).map fewS))) (fun _ _ _ h he => h.flz he), (⟨([3, 2], fun f _ => f 3 = f 2), fun f f' _ _ h _ hd => (show f' 3 = f' 2 by rw [hd 3 (by simp), hd 2 (by simp)]; exact h)⟩ : Fct Flz)] (fun w' => Below u5.heap.size u5 w') _ 4 0 chkOn6 (by kernel_rfl) (by kernel_rfl) (by kernel_rfl) (by decide) (Below.refl _ _) ?_ ?_
 ·refine lt_s (lt_s (lt_s (lt_s (lt_0) ?_) ?_) ?_) ?_
  ·intro f w1 hS hf aA hA
   have r3 := pO 3 hA (by kernel_rfl) z3
   exact fV rfl rfl _ (ex_move (.tmp 3) rfl r3) hS uS
  ·intro f w1 hS hf aA hA
   have r34 := pA 34 0 hA sbOn6 (by kernel_rfl) zsz rfl (hf 0 (by decide))
   exact flw_wp rfl rfl (fun K hK => wp_lit_ints9 1 _ rfl (([x] : List Int).map fun n => Value.int .i64 n).toArray (by decide) (by decide) (by simp only [List.map_toArray, List.map_cons, List.map_nil, r34]; kernel_rfl) (hK _ _ (hS.alloc hS.size _) (Flz.al _ _) (show Ins _ (updF f 1 _ 1) [x] by rw [updF_self]; exact Ins.litE9 _ _ 1 rfl)))
  ·intro f w1 hS hf aA hA
   have hu1 : Ins w1 (f 1) ([x]) := (hf 1 (by decide))
   have e35 := pA 35 1 hA sbOn6 (by kernel_rfl) zsz rfl rfl
   exact flw_call rfl rfl 5 #[(.tmp 35)] _ rfl #[f 1] (mp1 e35) (fun w => by kernel_rfl) (fun v w' => Us w' v (srt (([x]).map fewS))) (few16_us _ ([x]) w1 (HL.out.keep (HB.out.trans (hS.mono HB.out.size)) HSZ.out) (show 1 ≤ 1000 by decide) hu1) (fun v w' hr hb => ⟨hS.trans (hb.mono hS.size), Flz.of hb, (show Us w' (updF f 2 v 2) (srt (([x]).map fewS)) by rw [updF_self]; exact hr)⟩)
  ·intro f w1 hS hf aA hA
   have hu2 : Us w1 (f 2) (srt (([x]).map fewS)) := (hf 2 (by decide))
   have e36 := pA 36 2 hA sbOn6 (by kernel_rfl) zsz rfl rfl
   exact flw_val rfl rfl (f 2) (ex_assign (.tmp 36) rfl e36) hS (Flz.refl _) (show updF f 3 (f 2) 3 = updF f 3 (f 2) 2 by rw [updF_self, updF_ne f _ (by decide)])
 intro f u6 hS hf hap
 have h0 : f 0 = .int .i64 x := hf 0 (by decide)
 obtain ⟨v6_1, h1, hu1⟩ : ∃ v, f 1 = v ∧ Ins u6 v ([x]) := ⟨_, rfl, (hf 1 (by decide))⟩
 clear hu1
 obtain ⟨v6_2, h2, hu2⟩ : ∃ v, f 2 = v ∧ Us u6 v (srt (([x]).map fewS)) := ⟨_, rfl, (hf 2 (by decide))⟩
 have HU6_2 := Lib.hid hu2
 clear hu2
 have h3 : f 3 = v6_2 := Eq.trans (hf 3 (by decide)) h2
 clear hf hap
 clear zsz z3
 subst ha0
 simp only [slotsOn6, putAll, h0, h1, h2, h3, Act.put, List.setIfInBounds_toArray, List.set_cons_zero, List.set_cons_succ]
 clear h0 h1 h2 h3
 refine tl_nil ?_
 replace HU5_1 := Lib.hid (HU5_1.out.keep hS)
 replace HB := Lib.hid (HB.out.trans (hS.mono HB.out.size))
 clear hS
 go_upto_region 7 with fail
 refine wp_act (fun a0 ha0 => ?_)
 have zsz : a0.tmps.size = 103 := by rw [ha0]; rfl
 have z9 : a0.eval (.tmp 9) = v5_1 := by rw [ha0]; rfl
 have z10 : a0.eval (.tmp 10) = v6_2 := by rw [ha0]; rfl
 refine wrO [] slotsOn7 waitOn7 [Fct.val Flz 0 (v5_1), Fct.val Flz 1 (v6_2), Fct.obj 2 (fun v w => Us w v (eitU (srt ((la).map fewS)) (srt (([x]).map fewS)))) (fun _ _ _ h he => h.flz he), Fct.val Flz 3 (v5_1), Fct.val Flz 4 (v6_2), Fct.obj 5 (fun v w => Us w v (minU (srt ((la).map fewS)) (srt (([x]).map fewS)))) (fun _ _ _ h he => h.flz he), (⟨([6, 2], fun f _ => f 6 = f 2), fun f f' _ _ h _ hd => (show f' 6 = f' 2 by rw [hd 6 (by simp), hd 2 (by simp)]; exact h)⟩ : Fct Flz), (⟨([7, 5], fun f _ => f 7 = f 5), fun f f' _ _ h _ hd => (show f' 7 = f' 5 by rw [hd 7 (by simp), hd 5 (by simp)]; exact h)⟩ : Fct Flz)] (fun w' => Below u6.heap.size u6 w') _ 8 0 chkOn7 (by kernel_rfl) (by kernel_rfl) (by kernel_rfl) (by decide) (Below.refl _ _) ?_ ?_
 ·refine lt_s (lt_s (lt_s (lt_s (lt_s (lt_s (lt_s (lt_s (lt_0) ?_) ?_) ?_) ?_) ?_) ?_) ?_) ?_
  ·intro f w1 hS hf aA hA
   have r9 := pO 9 hA (by kernel_rfl) z9
   exact fV rfl rfl _ (ex_move (.tmp 9) rfl r9) hS uS
  ·intro f w1 hS hf aA hA
   have r10 := pO 10 hA (by kernel_rfl) z10
   exact fV rfl rfl _ (ex_move (.tmp 10) rfl r10) hS uS
  ·intro f w1 hS hf aA hA
   have r37 := pA 37 0 hA sbOn7 (by kernel_rfl) zsz rfl (hf 0 (by decide))
   have r38 := pA 38 1 hA sbOn7 (by kernel_rfl) zsz rfl (hf 1 (by decide))
   exact flw_call rfl rfl 6 #[(.tmp 37), (.tmp 38)] _ rfl #[v5_1, v6_2] (mp2 r37 r38) (fun w => by kernel_rfl) (fun v w' => Us w' v (eitU (srt ((la).map fewS)) (srt (([x]).map fewS)))) (us_either (HU5_1.out.keep hS) (HU6_2.out.keep hS) (len_few _ 10000 (Nat.le_trans HLA.out (by decide))) (len_few [x] 10000 (show 1 ≤ 10000 by decide))) (fun v w' hr hb => ⟨hS.trans (hb.mono hS.size), Flz.of hb, (show Us w' (updF f 2 v 2) (eitU (srt ((la).map fewS)) (srt (([x]).map fewS))) by rw [updF_self]; exact hr)⟩)
  ·intro f w1 hS hf aA hA
   have r9 := pO 9 hA (by kernel_rfl) z9
   exact fV rfl rfl _ (ex_move (.tmp 9) rfl r9) hS uS
  ·intro f w1 hS hf aA hA
   have r10 := pO 10 hA (by kernel_rfl) z10
   exact fV rfl rfl _ (ex_move (.tmp 10) rfl r10) hS uS
  ·intro f w1 hS hf aA hA
   have r40 := pA 40 3 hA sbOn7 (by kernel_rfl) zsz rfl (hf 3 (by decide))
   have r41 := pA 41 4 hA sbOn7 (by kernel_rfl) zsz rfl (hf 4 (by decide))
   exact flw_call rfl rfl 7 #[(.tmp 40), (.tmp 41)] _ rfl #[v5_1, v6_2] (mp2 r40 r41) (fun w => by kernel_rfl) (fun v w' => Us w' v (minU (srt ((la).map fewS)) (srt (([x]).map fewS)))) (us_minus (HU5_1.out.keep hS) (HU6_2.out.keep hS) (len_few _ 10000 (Nat.le_trans HLA.out (by decide))) (len_few [x] 10000 (show 1 ≤ 10000 by decide))) (fun v w' hr hb => ⟨hS.trans (hb.mono hS.size), Flz.of hb, (show Us w' (updF f 5 v 5) (minU (srt ((la).map fewS)) (srt (([x]).map fewS))) by rw [updF_self]; exact hr)⟩)
  ·intro f w1 hS hf aA hA
   have hu2 : Us w1 (f 2) (eitU (srt ((la).map fewS)) (srt (([x]).map fewS))) := (hf 2 (by decide))
   have e39 := pA 39 2 hA sbOn7 (by kernel_rfl) zsz rfl rfl
   exact flw_val rfl rfl (f 2) (ex_assign (.tmp 39) rfl e39) hS (Flz.refl _) (show updF f 6 (f 2) 6 = updF f 6 (f 2) 2 by rw [updF_self, updF_ne f _ (by decide)])
  ·intro f w1 hS hf aA hA
   have hu5 : Us w1 (f 5) (minU (srt ((la).map fewS)) (srt (([x]).map fewS))) := (hf 5 (by decide))
   have e42 := pA 42 5 hA sbOn7 (by kernel_rfl) zsz rfl rfl
   exact flw_val rfl rfl (f 5) (ex_assign (.tmp 42) rfl e42) hS (Flz.refl _) (show updF f 7 (f 5) 7 = updF f 7 (f 5) 5 by rw [updF_self, updF_ne f _ (by decide)])
 intro f u7 hS hf hap
 have h0 : f 0 = v5_1 := hf 0 (by decide)
 have h1 : f 1 = v6_2 := hf 1 (by decide)
 obtain ⟨v7_2, h2, hu2⟩ : ∃ v, f 2 = v ∧ Us u7 v (eitU (srt ((la).map fewS)) (srt (([x]).map fewS))) := ⟨_, rfl, (hf 2 (by decide))⟩
 have HU7_2 := Lib.hid hu2
 clear hu2
 have h3 : f 3 = v5_1 := hf 3 (by decide)
 have h4 : f 4 = v6_2 := hf 4 (by decide)
 obtain ⟨v7_5, h5, hu5⟩ : ∃ v, f 5 = v ∧ Us u7 v (minU (srt ((la).map fewS)) (srt (([x]).map fewS))) := ⟨_, rfl, (hf 5 (by decide))⟩
 have HU7_5 := Lib.hid hu5
 clear hu5
 have h6 : f 6 = v7_2 := Eq.trans (hf 6 (by decide)) h2
 have h7 : f 7 = v7_5 := Eq.trans (hf 7 (by decide)) h5
 clear hf hap
 clear zsz z9 z10
 subst ha0
 simp only [slotsOn7, putAll, h0, h1, h2, h3, h4, h5, h6, h7, Act.put, List.setIfInBounds_toArray, List.set_cons_zero, List.set_cons_succ]
 clear h0 h1 h2 h3 h4 h5 h6 h7
 refine tl_nil ?_
 replace HU5_1 := Lib.hid (HU5_1.out.keep hS)
 replace HU6_2 := Lib.hid (HU6_2.out.keep hS)
 replace HB := Lib.hid (HB.out.trans (hS.mono HB.out.size))
 clear hS
 cases gd
 ·go_upto_region 8 with fail
  refine wp_act (fun a0 ha0 => ?_)
  have zsz : a0.tmps.size = 103 := by rw [ha0]; rfl
  have z0 : a0.eval (.tmp 0) = .int .u64 (s : Int) := by rw [ha0]; rfl
  have z1 : a0.eval (.tmp 1) = .int .i64 n := by rw [ha0]; rfl
  have z11 : a0.eval (.tmp 11) = v7_2 := by rw [ha0]; rfl
  refine wrO [] slotsOnf8 waitOnf8 [Fct.val Flz 0 (.int .u64 (s : Int)), Fct.val Flz 1 (.int .i64 n), Fct.val Flz 2 (v7_2), Fct.obj 3 (fun v w => ∃ zz, v = .tuple #[.agg #[.int .u64 0, zz], .int .i64 1] ∧ Cs w zz (([] : List Ce))) (fun _ _ _ ⟨zz, a, b⟩ he => ⟨zz, a, b.flz he⟩), Fct.obj 4 (fun v w => ∃ zz, v = .tuple #[.agg #[.int .u64 0, zz], .int .i64 1] ∧ Cs w zz (([] : List Ce))) (fun _ _ _ ⟨zz, a, b⟩ he => ⟨zz, a, b.flz he⟩), Fct.obj 5 (fun v w => ∃ zz, v = .agg #[.int .u64 0, zz] ∧ Cs w zz (([] : List Ce))) (fun _ _ _ ⟨zz, a, b⟩ he => ⟨zz, a, b.flz he⟩), Fct.val Flz 6 (.int .i64 1), Fct.obj 7 (fun v w => ∃ g, v = .pointer (some ⟨g, 0, none⟩) ∧ u7.heap.size ≤ g ∧ Has w g 31 ([.int .u64 0, .slice none 0 0])) (fun _ _ _ ⟨g, a, b, c⟩ he => ⟨g, a, b, c.flz he (by decide)⟩)] (fun w' => Below u7.heap.size u7 w') _ 8 2 chkOnf8 (by kernel_rfl) (by kernel_rfl) (by kernel_rfl) (by decide) (Below.refl _ _) ?_ ?_
  ·refine lt_s (lt_s (lt_s (lt_s (lt_s (lt_s (lt_s (lt_s (lt_0) ?_) ?_) ?_) ?_) ?_) ?_) ?_) ?_
   ·intro f w1 hS hf aA hA
    have r0 := pO 0 hA (by kernel_rfl) z0
    exact fV rfl rfl _ (ex_move (.tmp 0) rfl r0) hS uS
   ·intro f w1 hS hf aA hA
    have r1 := pO 1 hA (by kernel_rfl) z1
    exact fV rfl rfl _ (ex_move (.tmp 1) rfl r1) hS uS
   ·intro f w1 hS hf aA hA
    have r11 := pO 11 hA (by kernel_rfl) z11
    exact fV rfl rfl _ (ex_move (.tmp 11) rfl r11) hS uS
   ·intro f w1 hS hf aA hA
    have r44 := pA 44 0 hA sbOnf8 (by kernel_rfl) zsz rfl (hf 0 (by decide))
    have r45 := pA 45 1 hA sbOnf8 (by kernel_rfl) zsz rfl (hf 1 (by decide))
    have r46 := pA 46 2 hA sbOnf8 (by kernel_rfl) zsz rfl (hf 2 (by decide))
    exact fC rfl rfl 8 #[(.tmp 44), (.tmp 45), (.tmp 46)] _ rfl #[.int .u64 (s : Int), .int .i64 n, v7_2] (mp3 r44 r45 r46) (fun w => by kernel_rfl) _ (of_f s n _ (eitU (srt ((la).map fewS)) (srt (([x]).map fewS))) HGD.out w1 HSD.out (HL.out.keep (HB.out.trans (hS.mono HB.out.size)) HSZ.out) (Nat.le_trans HMO.out (by decide)) (HU7_2.out.keep hS)) hS (fun _ _ ⟨zz, a, b⟩ => ⟨zz, uS.trans a, b⟩)
   ·intro f w1 hS hf aA hA
    obtain ⟨x47, hx47, hr47⟩ := hf 3 (by decide)
    have e47 := pA 47 3 hA sbOnf8 (by kernel_rfl) zsz rfl hx47
    exact flw_val rfl rfl (.tuple #[.agg #[.int .u64 0, x47], .int .i64 1]) (ex_move (.tmp 47) rfl e47) hS (Flz.refl _) ⟨x47, uS, hr47⟩
   ·intro f w1 hS hf aA hA
    obtain ⟨x43, hx43, hr43⟩ := hf 4 (by decide)
    have e43 := pA 43 4 hA sbOnf8 (by kernel_rfl) zsz rfl hx43
    exact flw_val rfl rfl (.agg #[.int .u64 0, x43]) (ex_extract (.tmp 43) 0 rfl e43 rfl) hS (Flz.refl _) ⟨x43, uS, hr43⟩
   ·intro f w1 hS hf aA hA
    obtain ⟨x43, hx43, hr43⟩ := hf 4 (by decide)
    have e43 := pA 43 4 hA sbOnf8 (by kernel_rfl) zsz rfl hx43
    exact fV rfl rfl _ (ex_extract (.tmp 43) 1 rfl e43 rfl) hS uS
   ·intro f w1 hS hf aA hA
    exact flw_wp rfl rfl (fun K hK => wp_alloc_row 31 rfl (.agg #[.int .u64 0, .slice none 0 0]) (fun w => by kernel_rfl) (hK _ _ (hS.alloc hS.size _) (Flz.al _ _) ⟨_, uS, hS.size, Has.made' _ _ _ _ rfl⟩))
  intro f x8 hS hf hap
  have h0 : f 0 = .int .u64 (s : Int) := hf 0 (by decide)
  have h1 : f 1 = .int .i64 n := hf 1 (by decide)
  have h2 : f 2 = v7_2 := hf 2 (by decide)
  obtain ⟨v8_3, h3, -⟩ := hf 3 (by decide)
  obtain ⟨v8_4, h4, -⟩ := hf 4 (by decide)
  obtain ⟨v8_5, h5, hu5⟩ := hf 5 (by decide)
  have HU8_5 := Lib.hid hu5
  clear hu5
  have h6 : f 6 = .int .i64 1 := hf 6 (by decide)
  obtain ⟨b8_7, h7, hgb7, hhb7⟩ := hf 7 (by decide)
  clear hf hap
  clear zsz z0 z1 z11
  subst ha0
  simp only [slotsOnf8, putAll, h0, h1, h2, h3, h4, h5, h6, h7, Act.put, List.setIfInBounds_toArray, List.set_cons_zero, List.set_cons_succ]
  clear h0 h1 h2 h3 h4 h5 h6 h7
  refine tl_store rfl (by kernel_rfl) 31 (.tmp 13) (.tmp 48) rfl b8_7 ([.int .u64 0, v8_5]) _ rfl rfl _ hhb7 (by kernel_rfl) rfl (tb_ones _ HU8_5.out.one) ?_
  intro u8 hp7 hbl hot
  replace hS := hS.trans (hbl _ hgb7)
  replace HU8_5 := Lib.hid (HU8_5.out.hotb hhb7 ⟨_, _, _, rfl⟩ (by decide) (hbl 0 (Nat.zero_le _)).size hot)
  clear hbl hot hhb7
  try simp only [Act.put]
  refine tl_pure rfl (by kernel_rfl) (.int .i64 1) (ex_assign (.tmp 49) rfl rfl) ?_
  try simp only [Act.put, List.setIfInBounds_toArray, List.set_cons_zero, List.set_cons_succ]
  refine tl_nil ?_
  replace HU5_1 := Lib.hid (HU5_1.out.keep hS)
  replace HU6_2 := Lib.hid (HU6_2.out.keep hS)
  replace HU7_2 := Lib.hid (HU7_2.out.keep hS)
  replace HU7_5 := Lib.hid (HU7_5.out.keep hS)
  have HBW := Lib.hid HB.out.size
  replace HB := Lib.hid (HB.out.trans (hS.mono HB.out.size))
  clear hS
  have HGb8_7 : Hid (w.heap.size ≤ b8_7) := Lib.hid (Nat.le_trans HBW.out hgb7)
  have HX_b8_7 : Hid (Has u8 b8_7 31 ([.int .u64 0, v8_5])) := Lib.hid hp7
  clear hp7 hgb7
  clear HBW
  go_upto_region 9 with fail
  refine wp_act (fun a0 ha0 => ?_)
  have zsz : a0.tmps.size = 103 := by rw [ha0]; rfl
  have z0 : a0.eval (.tmp 0) = .int .u64 (s : Int) := by rw [ha0]; rfl
  have z1 : a0.eval (.tmp 1) = .int .i64 n := by rw [ha0]; rfl
  have z12 : a0.eval (.tmp 12) = v7_5 := by rw [ha0]; rfl
  refine wrO [] slotsOnf9 waitOnf9 [Fct.val Flz 0 (.int .u64 (s : Int)), Fct.val Flz 1 (.int .i64 n), Fct.val Flz 2 (v7_5), Fct.obj 3 (fun v w => ∃ zz, v = .tuple #[.agg #[.int .u64 0, zz], .int .i64 1] ∧ Cs w zz (([] : List Ce))) (fun _ _ _ ⟨zz, a, b⟩ he => ⟨zz, a, b.flz he⟩), Fct.obj 4 (fun v w => ∃ zz, v = .tuple #[.agg #[.int .u64 0, zz], .int .i64 1] ∧ Cs w zz (([] : List Ce))) (fun _ _ _ ⟨zz, a, b⟩ he => ⟨zz, a, b.flz he⟩), Fct.obj 5 (fun v w => ∃ zz, v = .agg #[.int .u64 0, zz] ∧ Cs w zz (([] : List Ce))) (fun _ _ _ ⟨zz, a, b⟩ he => ⟨zz, a, b.flz he⟩), Fct.val Flz 6 (.int .i64 1), Fct.obj 7 (fun v w => ∃ g, v = .pointer (some ⟨g, 0, none⟩) ∧ u8.heap.size ≤ g ∧ Has w g 31 ([.int .u64 0, .slice none 0 0])) (fun _ _ _ ⟨g, a, b, c⟩ he => ⟨g, a, b, c.flz he (by decide)⟩)] (fun w' => Below u8.heap.size u8 w') _ 8 2 chkOnf9 (by kernel_rfl) (by kernel_rfl) (by kernel_rfl) (by decide) (Below.refl _ _) ?_ ?_
  ·refine lt_s (lt_s (lt_s (lt_s (lt_s (lt_s (lt_s (lt_s (lt_0) ?_) ?_) ?_) ?_) ?_) ?_) ?_) ?_
   ·intro f w1 hS hf aA hA
    have r0 := pO 0 hA (by kernel_rfl) z0
    exact fV rfl rfl _ (ex_move (.tmp 0) rfl r0) hS uS
   ·intro f w1 hS hf aA hA
    have r1 := pO 1 hA (by kernel_rfl) z1
    exact fV rfl rfl _ (ex_move (.tmp 1) rfl r1) hS uS
   ·intro f w1 hS hf aA hA
    have r12 := pO 12 hA (by kernel_rfl) z12
    exact fV rfl rfl _ (ex_move (.tmp 12) rfl r12) hS uS
   ·intro f w1 hS hf aA hA
    have r51 := pA 51 0 hA sbOnf9 (by kernel_rfl) zsz rfl (hf 0 (by decide))
    have r52 := pA 52 1 hA sbOnf9 (by kernel_rfl) zsz rfl (hf 1 (by decide))
    have r53 := pA 53 2 hA sbOnf9 (by kernel_rfl) zsz rfl (hf 2 (by decide))
    exact fC rfl rfl 8 #[(.tmp 51), (.tmp 52), (.tmp 53)] _ rfl #[.int .u64 (s : Int), .int .i64 n, v7_5] (mp3 r51 r52 r53) (fun w => by kernel_rfl) _ (of_f s n _ (minU (srt ((la).map fewS)) (srt (([x]).map fewS))) HGD.out w1 HSD.out (HL.out.keep (HB.out.trans (hS.mono HB.out.size)) HSZ.out) (Nat.le_trans HLE.out (by decide)) (HU7_5.out.keep hS)) hS (fun _ _ ⟨zz, a, b⟩ => ⟨zz, uS.trans a, b⟩)
   ·intro f w1 hS hf aA hA
    obtain ⟨x54, hx54, hr54⟩ := hf 3 (by decide)
    have e54 := pA 54 3 hA sbOnf9 (by kernel_rfl) zsz rfl hx54
    exact flw_val rfl rfl (.tuple #[.agg #[.int .u64 0, x54], .int .i64 1]) (ex_move (.tmp 54) rfl e54) hS (Flz.refl _) ⟨x54, uS, hr54⟩
   ·intro f w1 hS hf aA hA
    obtain ⟨x50, hx50, hr50⟩ := hf 4 (by decide)
    have e50 := pA 50 4 hA sbOnf9 (by kernel_rfl) zsz rfl hx50
    exact flw_val rfl rfl (.agg #[.int .u64 0, x50]) (ex_extract (.tmp 50) 0 rfl e50 rfl) hS (Flz.refl _) ⟨x50, uS, hr50⟩
   ·intro f w1 hS hf aA hA
    obtain ⟨x50, hx50, hr50⟩ := hf 4 (by decide)
    have e50 := pA 50 4 hA sbOnf9 (by kernel_rfl) zsz rfl hx50
    exact fV rfl rfl _ (ex_extract (.tmp 50) 1 rfl e50 rfl) hS uS
   ·intro f w1 hS hf aA hA
    exact flw_wp rfl rfl (fun K hK => wp_alloc_row 31 rfl (.agg #[.int .u64 0, .slice none 0 0]) (fun w => by kernel_rfl) (hK _ _ (hS.alloc hS.size _) (Flz.al _ _) ⟨_, uS, hS.size, Has.made' _ _ _ _ rfl⟩))
  intro f x9 hS hf hap
  have h0 : f 0 = .int .u64 (s : Int) := hf 0 (by decide)
  have h1 : f 1 = .int .i64 n := hf 1 (by decide)
  have h2 : f 2 = v7_5 := hf 2 (by decide)
  obtain ⟨v9_3, h3, -⟩ := hf 3 (by decide)
  obtain ⟨v9_4, h4, -⟩ := hf 4 (by decide)
  obtain ⟨v9_5, h5, hu5⟩ := hf 5 (by decide)
  have HU9_5 := Lib.hid hu5
  clear hu5
  have h6 : f 6 = .int .i64 1 := hf 6 (by decide)
  obtain ⟨b9_7, h7, hgb7, hhb7⟩ := hf 7 (by decide)
  clear hf hap
  clear zsz z0 z1 z12
  subst ha0
  simp only [slotsOnf9, putAll, h0, h1, h2, h3, h4, h5, h6, h7, Act.put, List.setIfInBounds_toArray, List.set_cons_zero, List.set_cons_succ]
  clear h0 h1 h2 h3 h4 h5 h6 h7
  refine tl_store rfl (by kernel_rfl) 31 (.tmp 15) (.tmp 55) rfl b9_7 ([.int .u64 0, v9_5]) _ rfl rfl _ hhb7 (by kernel_rfl) rfl (tb_ones _ HU9_5.out.one) ?_
  intro u9 hp7 hbl hot
  replace hS := hS.trans (hbl _ hgb7)
  replace HU9_5 := Lib.hid (HU9_5.out.hotb hhb7 ⟨_, _, _, rfl⟩ (by decide) (hbl 0 (Nat.zero_le _)).size hot)
  clear hbl hot hhb7
  try simp only [Act.put]
  refine tl_pure rfl (by kernel_rfl) (.int .i64 1) (ex_assign (.tmp 56) rfl rfl) ?_
  try simp only [Act.put, List.setIfInBounds_toArray, List.set_cons_zero, List.set_cons_succ]
  refine tl_nil ?_
  replace HU5_1 := Lib.hid (HU5_1.out.keep hS)
  replace HU6_2 := Lib.hid (HU6_2.out.keep hS)
  replace HU7_2 := Lib.hid (HU7_2.out.keep hS)
  replace HU7_5 := Lib.hid (HU7_5.out.keep hS)
  replace HX_b8_7 := Lib.hid (HX_b8_7.out.keepB hS)
  replace HU8_5 := Lib.hid (HU8_5.out.keep hS)
  have HBW := Lib.hid HB.out.size
  replace HB := Lib.hid (HB.out.trans (hS.mono HB.out.size))
  clear hS
  have HGb9_7 : Hid (w.heap.size ≤ b9_7) := Lib.hid (Nat.le_trans HBW.out hgb7)
  have HX_b9_7 : Hid (Has u9 b9_7 31 ([.int .u64 0, v9_5])) := Lib.hid hp7
  clear hp7 hgb7
  clear HBW
  go_upto_region 10 with fail
  refine wp_act (fun a0 ha0 => ?_)
  have zsz : a0.tmps.size = 103 := by rw [ha0]; rfl
  have z14 : a0.eval (.tmp 14) = .int .i64 1 := by rw [ha0]; rfl
  refine wrO [] slotsOnf10 waitOnf10 [Fct.val Flz 0 (.int .i64 1), Fct.val Flz 1 (.bool true), Fct.val Flz 2 (.bool true), Fct.val Flz 3 (undef), Fct.val Flz 4 (undef), Fct.val Flz 5 (.bool true)] (fun w' => Below u9.heap.size u9 w') _ 6 0 chkOnf10 (by kernel_rfl) (by kernel_rfl) (by kernel_rfl) (by decide) (Below.refl _ _) ?_ ?_
  ·refine lt_s (lt_s (lt_s (lt_s (lt_s (lt_s (lt_0) ?_) ?_) ?_) ?_) ?_) ?_
   ·intro f w1 hS hf aA hA
    have r14 := pO 14 hA (by kernel_rfl) z14
    exact fV rfl rfl _ (ex_move (.tmp 14) rfl r14) hS uS
   ·intro f w1 hS hf aA hA
    have r57 := pA 57 0 hA sbOnf10 (by kernel_rfl) zsz rfl (hf 0 (by decide))
    exact fV rfl rfl _ (Eq.trans (ex_int .neq _ _ (.tmp 57) _ rfl .i64 1 0 r57 rfl (.bool ((1 : Int) != (0 : Int))) (fun _ => rfl)) (by rw [(by decide : ((1 : Int) != (0 : Int)) = true)])) hS uS
   ·intro f w1 hS hf aA hA
    have r58 := pA 58 1 hA sbOnf10 (by kernel_rfl) zsz rfl (hf 1 (by decide))
    exact fV rfl rfl _ (ex_move (.tmp 58) rfl r58) hS uS
   ·intro f w1 hS hf aA hA
    have t59 := pG 59 2 hA sbOnf10 (by kernel_rfl) zsz rfl (hf 2 (by decide))
    exact flw_skip rfl ((wanted_of rfl 59 rfl t59).trans rfl) hS (Flz.refl _) uS
   ·intro f w1 hS hf aA hA
    have t59 := pG 59 2 hA sbOnf10 (by kernel_rfl) zsz rfl (hf 2 (by decide))
    exact flw_skip rfl ((wanted_of rfl 59 rfl t59).trans rfl) hS (Flz.refl _) uS
   ·intro f w1 hS hf aA hA
    have r59 := pA 59 2 hA sbOnf10 (by kernel_rfl) zsz rfl (hf 2 (by decide))
    exact fV rfl rfl (.bool true) (ex_pick (.tmp 59) _ (.tmp 61) rfl true r59 ((if_pos rfl).trans rfl)) hS uS
  intro f u10 hS hf hap
  have h0 : f 0 = .int .i64 1 := hf 0 (by decide)
  have h1 : f 1 = .bool true := hf 1 (by decide)
  have h2 : f 2 = .bool true := hf 2 (by decide)
  have h3 : f 3 = undef := hf 3 (by decide)
  have h4 : f 4 = undef := hf 4 (by decide)
  have h5 : f 5 = .bool true := hf 5 (by decide)
  clear hf hap
  clear zsz z14
  subst ha0
  simp only [slotsOnf10, putAll, h0, h1, h2, h3, h4, h5, Act.put, List.setIfInBounds_toArray, List.set_cons_zero, List.set_cons_succ]
  clear h0 h1 h2 h3 h4 h5
  refine tl_nil ?_
  replace HU5_1 := Lib.hid (HU5_1.out.keep hS)
  replace HU6_2 := Lib.hid (HU6_2.out.keep hS)
  replace HU7_2 := Lib.hid (HU7_2.out.keep hS)
  replace HU7_5 := Lib.hid (HU7_5.out.keep hS)
  replace HX_b8_7 := Lib.hid (HX_b8_7.out.keepB hS)
  replace HU8_5 := Lib.hid (HU8_5.out.keep hS)
  replace HX_b9_7 := Lib.hid (HX_b9_7.out.keepB hS)
  replace HU9_5 := Lib.hid (HU9_5.out.keep hS)
  replace HB := Lib.hid (HB.out.trans (hS.mono HB.out.size))
  clear hS
  go_wp2_with fail
  go_ret
  exact ⟨rfl, HB.out⟩
 ·obtain ⟨m, hm, hm3, hm4⟩ := good_int HGD.out
  have HM := Lib.hid hm
  have HM4 := Lib.hid hm4
  have HGM : Hid (goodN (m : Int) = true) := Lib.hid (by rw [← hm]; exact HGD.out)
  clear hm hm3 hm4
  go_upto_region 8 with fail
  refine wp_act (fun a0 ha0 => ?_)
  have zsz : a0.tmps.size = 103 := by rw [ha0]; rfl
  have z0 : a0.eval (.tmp 0) = .int .u64 (s : Int) := by rw [ha0]; rfl
  have z1 : a0.eval (.tmp 1) = .int .i64 n := by rw [ha0]; rfl
  have z11 : a0.eval (.tmp 11) = v7_2 := by rw [ha0]; rfl
  refine wrO [] slotsOnt8 waitOnt8 [Fct.val Flz 0 (.int .u64 (s : Int)), Fct.val Flz 1 (.int .i64 n), Fct.val Flz 2 (v7_2), Fct.obj 3 (fun v w => ∃ zz, v = .tuple #[.agg #[.int .u64 (s : Int), zz], .int .i64 0] ∧ Cs w zz (tabP s m (eitU (srt ((la).map fewS)) (srt (([x]).map fewS))))) (fun _ _ _ ⟨zz, a, b⟩ he => ⟨zz, a, b.flz he⟩), Fct.obj 4 (fun v w => ∃ zz, v = .tuple #[.agg #[.int .u64 (s : Int), zz], .int .i64 0] ∧ Cs w zz (tabP s m (eitU (srt ((la).map fewS)) (srt (([x]).map fewS))))) (fun _ _ _ ⟨zz, a, b⟩ he => ⟨zz, a, b.flz he⟩), Fct.obj 5 (fun v w => ∃ zz, v = .agg #[.int .u64 (s : Int), zz] ∧ Cs w zz (tabP s m (eitU (srt ((la).map fewS)) (srt (([x]).map fewS))))) (fun _ _ _ ⟨zz, a, b⟩ he => ⟨zz, a, b.flz he⟩), Fct.val Flz 6 (.int .i64 0), Fct.obj 7 (fun v w => ∃ g, v = .pointer (some ⟨g, 0, none⟩) ∧ u7.heap.size ≤ g ∧ Has w g 31 ([.int .u64 0, .slice none 0 0])) (fun _ _ _ ⟨g, a, b, c⟩ he => ⟨g, a, b, c.flz he (by decide)⟩)] (fun w' => Below u7.heap.size u7 w') _ 8 2 chkOnt8 (by kernel_rfl) (by kernel_rfl) (by kernel_rfl) (by decide) (Below.refl _ _) ?_ ?_
  ·refine lt_s (lt_s (lt_s (lt_s (lt_s (lt_s (lt_s (lt_s (lt_0) ?_) ?_) ?_) ?_) ?_) ?_) ?_) ?_
   ·intro f w1 hS hf aA hA
    have r0 := pO 0 hA (by kernel_rfl) z0
    exact fV rfl rfl _ (ex_move (.tmp 0) rfl r0) hS uS
   ·intro f w1 hS hf aA hA
    have r1 := pO 1 hA (by kernel_rfl) z1
    exact fV rfl rfl _ (ex_move (.tmp 1) rfl r1) hS uS
   ·intro f w1 hS hf aA hA
    have r11 := pO 11 hA (by kernel_rfl) z11
    exact fV rfl rfl _ (ex_move (.tmp 11) rfl r11) hS uS
   ·intro f w1 hS hf aA hA
    have r44 := pA 44 0 hA sbOnt8 (by kernel_rfl) zsz rfl (hf 0 (by decide))
    have r45 := pA 45 1 hA sbOnt8 (by kernel_rfl) zsz rfl (hf 1 (by decide))
    have r46 := pA 46 2 hA sbOnt8 (by kernel_rfl) zsz rfl (hf 2 (by decide))
    exact fC rfl rfl 8 #[(.tmp 44), (.tmp 45), (.tmp 46)] _ rfl #[.int .u64 (s : Int), .int .i64 n, v7_2] (mp3 r44 r45 r46) (fun w => by kernel_rfl) _ (ofA_t s n m _ (eitU (srt ((la).map fewS)) (srt (([x]).map fewS))) HGD.out HM.out (asc_eitU _ _) w1 HSD.out (HL.out.keep (HB.out.trans (hS.mono HB.out.size)) HSZ.out) (Nat.le_trans HMO.out (by decide)) (HU7_2.out.keep hS)) hS (fun _ _ ⟨zz, a, b⟩ => ⟨zz, uS.trans a, b⟩)
   ·intro f w1 hS hf aA hA
    obtain ⟨x47, hx47, hr47⟩ := hf 3 (by decide)
    have e47 := pA 47 3 hA sbOnt8 (by kernel_rfl) zsz rfl hx47
    exact flw_val rfl rfl (.tuple #[.agg #[.int .u64 (s : Int), x47], .int .i64 0]) (ex_move (.tmp 47) rfl e47) hS (Flz.refl _) ⟨x47, uS, hr47⟩
   ·intro f w1 hS hf aA hA
    obtain ⟨x43, hx43, hr43⟩ := hf 4 (by decide)
    have e43 := pA 43 4 hA sbOnt8 (by kernel_rfl) zsz rfl hx43
    exact flw_val rfl rfl (.agg #[.int .u64 (s : Int), x43]) (ex_extract (.tmp 43) 0 rfl e43 rfl) hS (Flz.refl _) ⟨x43, uS, hr43⟩
   ·intro f w1 hS hf aA hA
    obtain ⟨x43, hx43, hr43⟩ := hf 4 (by decide)
    have e43 := pA 43 4 hA sbOnt8 (by kernel_rfl) zsz rfl hx43
    exact fV rfl rfl _ (ex_extract (.tmp 43) 1 rfl e43 rfl) hS uS
   ·intro f w1 hS hf aA hA
    exact flw_wp rfl rfl (fun K hK => wp_alloc_row 31 rfl (.agg #[.int .u64 0, .slice none 0 0]) (fun w => by kernel_rfl) (hK _ _ (hS.alloc hS.size _) (Flz.al _ _) ⟨_, uS, hS.size, Has.made' _ _ _ _ rfl⟩))
  intro f x8 hS hf hap
  have h0 : f 0 = .int .u64 (s : Int) := hf 0 (by decide)
  have h1 : f 1 = .int .i64 n := hf 1 (by decide)
  have h2 : f 2 = v7_2 := hf 2 (by decide)
  obtain ⟨v8_3, h3, -⟩ := hf 3 (by decide)
  obtain ⟨v8_4, h4, -⟩ := hf 4 (by decide)
  obtain ⟨v8_5, h5, hu5⟩ := hf 5 (by decide)
  have HU8_5 := Lib.hid hu5
  clear hu5
  have h6 : f 6 = .int .i64 0 := hf 6 (by decide)
  obtain ⟨b8_7, h7, hgb7, hhb7⟩ := hf 7 (by decide)
  clear hf hap
  clear zsz z0 z1 z11
  subst ha0
  simp only [slotsOnt8, putAll, h0, h1, h2, h3, h4, h5, h6, h7, Act.put, List.setIfInBounds_toArray, List.set_cons_zero, List.set_cons_succ]
  clear h0 h1 h2 h3 h4 h5 h6 h7
  refine tl_store rfl (by kernel_rfl) 31 (.tmp 13) (.tmp 48) rfl b8_7 ([.int .u64 (s : Int), v8_5]) _ rfl rfl _ hhb7 (by kernel_rfl) rfl (tb_ones _ HU8_5.out.one) ?_
  intro u8 hp7 hbl hot
  replace hS := hS.trans (hbl _ hgb7)
  replace HU8_5 := Lib.hid (HU8_5.out.hotb hhb7 ⟨_, _, _, rfl⟩ (by decide) (hbl 0 (Nat.zero_le _)).size hot)
  clear hbl hot hhb7
  try simp only [Act.put]
  refine tl_pure rfl (by kernel_rfl) (.int .i64 0) (ex_assign (.tmp 49) rfl rfl) ?_
  try simp only [Act.put, List.setIfInBounds_toArray, List.set_cons_zero, List.set_cons_succ]
  refine tl_nil ?_
  replace HU5_1 := Lib.hid (HU5_1.out.keep hS)
  replace HU6_2 := Lib.hid (HU6_2.out.keep hS)
  replace HU7_2 := Lib.hid (HU7_2.out.keep hS)
  replace HU7_5 := Lib.hid (HU7_5.out.keep hS)
  have HBW := Lib.hid HB.out.size
  replace HB := Lib.hid (HB.out.trans (hS.mono HB.out.size))
  clear hS
  have HGb8_7 : Hid (w.heap.size ≤ b8_7) := Lib.hid (Nat.le_trans HBW.out hgb7)
  have HX_b8_7 : Hid (Has u8 b8_7 31 ([.int .u64 (s : Int), v8_5])) := Lib.hid hp7
  clear hp7 hgb7
  clear HBW
  go_upto_region 9 with fail
  refine wp_act (fun a0 ha0 => ?_)
  have zsz : a0.tmps.size = 103 := by rw [ha0]; rfl
  have z0 : a0.eval (.tmp 0) = .int .u64 (s : Int) := by rw [ha0]; rfl
  have z1 : a0.eval (.tmp 1) = .int .i64 n := by rw [ha0]; rfl
  have z12 : a0.eval (.tmp 12) = v7_5 := by rw [ha0]; rfl
  refine wrO [] slotsOnt9 waitOnt9 [Fct.val Flz 0 (.int .u64 (s : Int)), Fct.val Flz 1 (.int .i64 n), Fct.val Flz 2 (v7_5), Fct.obj 3 (fun v w => ∃ zz, v = .tuple #[.agg #[.int .u64 (s : Int), zz], .int .i64 0] ∧ Cs w zz (tabP s m (minU (srt ((la).map fewS)) (srt (([x]).map fewS))))) (fun _ _ _ ⟨zz, a, b⟩ he => ⟨zz, a, b.flz he⟩), Fct.obj 4 (fun v w => ∃ zz, v = .tuple #[.agg #[.int .u64 (s : Int), zz], .int .i64 0] ∧ Cs w zz (tabP s m (minU (srt ((la).map fewS)) (srt (([x]).map fewS))))) (fun _ _ _ ⟨zz, a, b⟩ he => ⟨zz, a, b.flz he⟩), Fct.obj 5 (fun v w => ∃ zz, v = .agg #[.int .u64 (s : Int), zz] ∧ Cs w zz (tabP s m (minU (srt ((la).map fewS)) (srt (([x]).map fewS))))) (fun _ _ _ ⟨zz, a, b⟩ he => ⟨zz, a, b.flz he⟩), Fct.val Flz 6 (.int .i64 0), Fct.obj 7 (fun v w => ∃ g, v = .pointer (some ⟨g, 0, none⟩) ∧ u8.heap.size ≤ g ∧ Has w g 31 ([.int .u64 0, .slice none 0 0])) (fun _ _ _ ⟨g, a, b, c⟩ he => ⟨g, a, b, c.flz he (by decide)⟩)] (fun w' => Below u8.heap.size u8 w') _ 8 2 chkOnt9 (by kernel_rfl) (by kernel_rfl) (by kernel_rfl) (by decide) (Below.refl _ _) ?_ ?_
  ·refine lt_s (lt_s (lt_s (lt_s (lt_s (lt_s (lt_s (lt_s (lt_0) ?_) ?_) ?_) ?_) ?_) ?_) ?_) ?_
   ·intro f w1 hS hf aA hA
    have r0 := pO 0 hA (by kernel_rfl) z0
    exact fV rfl rfl _ (ex_move (.tmp 0) rfl r0) hS uS
   ·intro f w1 hS hf aA hA
    have r1 := pO 1 hA (by kernel_rfl) z1
    exact fV rfl rfl _ (ex_move (.tmp 1) rfl r1) hS uS
   ·intro f w1 hS hf aA hA
    have r12 := pO 12 hA (by kernel_rfl) z12
    exact fV rfl rfl _ (ex_move (.tmp 12) rfl r12) hS uS
   ·intro f w1 hS hf aA hA
    have r51 := pA 51 0 hA sbOnt9 (by kernel_rfl) zsz rfl (hf 0 (by decide))
    have r52 := pA 52 1 hA sbOnt9 (by kernel_rfl) zsz rfl (hf 1 (by decide))
    have r53 := pA 53 2 hA sbOnt9 (by kernel_rfl) zsz rfl (hf 2 (by decide))
    exact fC rfl rfl 8 #[(.tmp 51), (.tmp 52), (.tmp 53)] _ rfl #[.int .u64 (s : Int), .int .i64 n, v7_5] (mp3 r51 r52 r53) (fun w => by kernel_rfl) _ (ofA_t s n m _ (minU (srt ((la).map fewS)) (srt (([x]).map fewS))) HGD.out HM.out (asc_minU _ _) w1 HSD.out (HL.out.keep (HB.out.trans (hS.mono HB.out.size)) HSZ.out) (Nat.le_trans HLE.out (by decide)) (HU7_5.out.keep hS)) hS (fun _ _ ⟨zz, a, b⟩ => ⟨zz, uS.trans a, b⟩)
   ·intro f w1 hS hf aA hA
    obtain ⟨x54, hx54, hr54⟩ := hf 3 (by decide)
    have e54 := pA 54 3 hA sbOnt9 (by kernel_rfl) zsz rfl hx54
    exact flw_val rfl rfl (.tuple #[.agg #[.int .u64 (s : Int), x54], .int .i64 0]) (ex_move (.tmp 54) rfl e54) hS (Flz.refl _) ⟨x54, uS, hr54⟩
   ·intro f w1 hS hf aA hA
    obtain ⟨x50, hx50, hr50⟩ := hf 4 (by decide)
    have e50 := pA 50 4 hA sbOnt9 (by kernel_rfl) zsz rfl hx50
    exact flw_val rfl rfl (.agg #[.int .u64 (s : Int), x50]) (ex_extract (.tmp 50) 0 rfl e50 rfl) hS (Flz.refl _) ⟨x50, uS, hr50⟩
   ·intro f w1 hS hf aA hA
    obtain ⟨x50, hx50, hr50⟩ := hf 4 (by decide)
    have e50 := pA 50 4 hA sbOnt9 (by kernel_rfl) zsz rfl hx50
    exact fV rfl rfl _ (ex_extract (.tmp 50) 1 rfl e50 rfl) hS uS
   ·intro f w1 hS hf aA hA
    exact flw_wp rfl rfl (fun K hK => wp_alloc_row 31 rfl (.agg #[.int .u64 0, .slice none 0 0]) (fun w => by kernel_rfl) (hK _ _ (hS.alloc hS.size _) (Flz.al _ _) ⟨_, uS, hS.size, Has.made' _ _ _ _ rfl⟩))
  intro f x9 hS hf hap
  have h0 : f 0 = .int .u64 (s : Int) := hf 0 (by decide)
  have h1 : f 1 = .int .i64 n := hf 1 (by decide)
  have h2 : f 2 = v7_5 := hf 2 (by decide)
  obtain ⟨v9_3, h3, -⟩ := hf 3 (by decide)
  obtain ⟨v9_4, h4, -⟩ := hf 4 (by decide)
  obtain ⟨v9_5, h5, hu5⟩ := hf 5 (by decide)
  have HU9_5 := Lib.hid hu5
  clear hu5
  have h6 : f 6 = .int .i64 0 := hf 6 (by decide)
  obtain ⟨b9_7, h7, hgb7, hhb7⟩ := hf 7 (by decide)
  clear hf hap
  clear zsz z0 z1 z12
  subst ha0
  simp only [slotsOnt9, putAll, h0, h1, h2, h3, h4, h5, h6, h7, Act.put, List.setIfInBounds_toArray, List.set_cons_zero, List.set_cons_succ]
  clear h0 h1 h2 h3 h4 h5 h6 h7
  refine tl_store rfl (by kernel_rfl) 31 (.tmp 15) (.tmp 55) rfl b9_7 ([.int .u64 (s : Int), v9_5]) _ rfl rfl _ hhb7 (by kernel_rfl) rfl (tb_ones _ HU9_5.out.one) ?_
  intro u9 hp7 hbl hot
  replace hS := hS.trans (hbl _ hgb7)
  replace HU9_5 := Lib.hid (HU9_5.out.hotb hhb7 ⟨_, _, _, rfl⟩ (by decide) (hbl 0 (Nat.zero_le _)).size hot)
  clear hbl hot hhb7
  try simp only [Act.put]
  refine tl_pure rfl (by kernel_rfl) (.int .i64 0) (ex_assign (.tmp 56) rfl rfl) ?_
  try simp only [Act.put, List.setIfInBounds_toArray, List.set_cons_zero, List.set_cons_succ]
  refine tl_nil ?_
  replace HU5_1 := Lib.hid (HU5_1.out.keep hS)
  replace HU6_2 := Lib.hid (HU6_2.out.keep hS)
  replace HU7_2 := Lib.hid (HU7_2.out.keep hS)
  replace HU7_5 := Lib.hid (HU7_5.out.keep hS)
  replace HX_b8_7 := Lib.hid (HX_b8_7.out.keepB hS)
  replace HU8_5 := Lib.hid (HU8_5.out.keep hS)
  have HBW := Lib.hid HB.out.size
  replace HB := Lib.hid (HB.out.trans (hS.mono HB.out.size))
  clear hS
  have HGb9_7 : Hid (w.heap.size ≤ b9_7) := Lib.hid (Nat.le_trans HBW.out hgb7)
  have HX_b9_7 : Hid (Has u9 b9_7 31 ([.int .u64 (s : Int), v9_5])) := Lib.hid hp7
  clear hp7 hgb7
  clear HBW
  go_upto_region 10 with fail
  refine wp_act (fun a0 ha0 => ?_)
  have zsz : a0.tmps.size = 103 := by rw [ha0]; rfl
  have z14 : a0.eval (.tmp 14) = .int .i64 0 := by rw [ha0]; rfl
  have z16 : a0.eval (.tmp 16) = .int .i64 0 := by rw [ha0]; rfl
  refine wrO [] slotsOnt10 waitOnt10 [Fct.val Flz 0 (.int .i64 0), Fct.val Flz 1 (.bool false), Fct.val Flz 2 (.bool false), Fct.val Flz 3 (.int .i64 0), Fct.val Flz 4 (.bool false), Fct.val Flz 5 (.bool false)] (fun w' => Below u9.heap.size u9 w') _ 6 0 chkOnt10 (by kernel_rfl) (by kernel_rfl) (by kernel_rfl) (by decide) (Below.refl _ _) ?_ ?_
  ·refine lt_s (lt_s (lt_s (lt_s (lt_s (lt_s (lt_0) ?_) ?_) ?_) ?_) ?_) ?_
   ·intro f w1 hS hf aA hA
    have r14 := pO 14 hA (by kernel_rfl) z14
    exact fV rfl rfl _ (ex_move (.tmp 14) rfl r14) hS uS
   ·intro f w1 hS hf aA hA
    have r57 := pA 57 0 hA sbOnt10 (by kernel_rfl) zsz rfl (hf 0 (by decide))
    exact fV rfl rfl _ (Eq.trans (ex_int .neq _ _ (.tmp 57) _ rfl .i64 0 0 r57 rfl (.bool ((0 : Int) != (0 : Int))) (fun _ => rfl)) (by rw [(by decide : ((0 : Int) != (0 : Int)) = false)])) hS uS
   ·intro f w1 hS hf aA hA
    have r58 := pA 58 1 hA sbOnt10 (by kernel_rfl) zsz rfl (hf 1 (by decide))
    exact fV rfl rfl _ (ex_move (.tmp 58) rfl r58) hS uS
   ·intro f w1 hS hf aA hA
    have t59 := pG 59 2 hA sbOnt10 (by kernel_rfl) zsz rfl (hf 2 (by decide))
    have r16 := pO 16 hA (by kernel_rfl) z16
    exact fV rfl ((wanted_of rfl 59 rfl t59).trans rfl) _ (ex_move (.tmp 16) rfl r16) hS uS
   ·intro f w1 hS hf aA hA
    have t59 := pG 59 2 hA sbOnt10 (by kernel_rfl) zsz rfl (hf 2 (by decide))
    have r60 := pA 60 3 hA sbOnt10 (by kernel_rfl) zsz rfl (hf 3 (by decide))
    exact fV rfl ((wanted_of rfl 59 rfl t59).trans rfl) _ (Eq.trans (ex_int .neq _ _ (.tmp 60) _ rfl .i64 0 0 r60 rfl (.bool ((0 : Int) != (0 : Int))) (fun _ => rfl)) (by rw [(by decide : ((0 : Int) != (0 : Int)) = false)])) hS uS
   ·intro f w1 hS hf aA hA
    have r59 := pA 59 2 hA sbOnt10 (by kernel_rfl) zsz rfl (hf 2 (by decide))
    have r61 := pA 61 4 hA sbOnt10 (by kernel_rfl) zsz rfl (hf 4 (by decide))
    exact fV rfl rfl (.bool false) (ex_pick (.tmp 59) _ (.tmp 61) rfl false r59 ((if_neg (by decide)).trans r61)) hS uS
  intro f u10 hS hf hap
  have h0 : f 0 = .int .i64 0 := hf 0 (by decide)
  have h1 : f 1 = .bool false := hf 1 (by decide)
  have h2 : f 2 = .bool false := hf 2 (by decide)
  have h3 : f 3 = .int .i64 0 := hf 3 (by decide)
  have h4 : f 4 = .bool false := hf 4 (by decide)
  have h5 : f 5 = .bool false := hf 5 (by decide)
  clear hf hap
  clear zsz z14 z16
  subst ha0
  simp only [slotsOnt10, putAll, h0, h1, h2, h3, h4, h5, Act.put, List.setIfInBounds_toArray, List.set_cons_zero, List.set_cons_succ]
  clear h0 h1 h2 h3 h4 h5
  refine tl_nil ?_
  replace HU5_1 := Lib.hid (HU5_1.out.keep hS)
  replace HU6_2 := Lib.hid (HU6_2.out.keep hS)
  replace HU7_2 := Lib.hid (HU7_2.out.keep hS)
  replace HU7_5 := Lib.hid (HU7_5.out.keep hS)
  replace HX_b8_7 := Lib.hid (HX_b8_7.out.keepB hS)
  replace HU8_5 := Lib.hid (HU8_5.out.keep hS)
  replace HX_b9_7 := Lib.hid (HX_b9_7.out.keepB hS)
  replace HU9_5 := Lib.hid (HU9_5.out.keep hS)
  replace HB := Lib.hid (HB.out.trans (hS.mono HB.out.size))
  clear hS
  go_upto_region 12 with fail
  refine wp_act (fun a0 ha0 => ?_)
  have zsz : a0.tmps.size = 103 := by rw [ha0]; rfl
  have z13 : a0.eval (.tmp 13) = .pointer (some ⟨b8_7, 0, none⟩) := by rw [ha0]; rfl
  have z12 : a0.eval (.tmp 12) = v7_5 := by rw [ha0]; rfl
  refine wrO [] slotsOnt12 waitOnt12 [Fct.val Flz 0 (.agg #[.int .u64 (s : Int), v8_5]), Fct.val Flz 1 (v7_5), Fct.obj 2 (fun v w => ∃ zz, v = .tuple #[(fl zz 0), (fl zz 1), .int .i64 0] ∧ OwnR (srt (([x]).map fewS)) (([] : List Su)) w zz) (fun _ _ _ ⟨zz, a, b⟩ he => ⟨zz, a, b.flz he⟩), Fct.obj 3 (fun v w => ∃ zz, v = .tuple #[(fl zz 0), (fl zz 1), .int .i64 0] ∧ OwnR (srt (([x]).map fewS)) (([] : List Su)) w zz) (fun _ _ _ ⟨zz, a, b⟩ he => ⟨zz, a, b.flz he⟩), Fct.obj 4 (fun v w => ∃ zz, v = (fl zz 0) ∧ OwnR (srt (([x]).map fewS)) (([] : List Su)) w zz) (fun _ _ _ ⟨zz, a, b⟩ he => ⟨zz, a, b.flz he⟩), Fct.obj 5 (fun v w => ∃ zz, v = (fl zz 1) ∧ OwnR (srt (([x]).map fewS)) (([] : List Su)) w zz) (fun _ _ _ ⟨zz, a, b⟩ he => ⟨zz, a, b.flz he⟩), Fct.val Flz 6 (.int .i64 0), Fct.obj 7 (fun v w => ∃ zz, v = (fl zz 0) ∧ OwnR (srt (([x]).map fewS)) (([] : List Su)) w zz) (fun _ _ _ ⟨zz, a, b⟩ he => ⟨zz, a, b.flz he⟩), Fct.obj 8 (fun v w => ∃ zz, v = (fl zz 1) ∧ OwnR (srt (([x]).map fewS)) (([] : List Su)) w zz) (fun _ _ _ ⟨zz, a, b⟩ he => ⟨zz, a, b.flz he⟩), Fct.val Flz 9 (.int .i64 0)] (fun w' => Below u10.heap.size u10 w') _ 10 0 chkOnt12 (by kernel_rfl) (by kernel_rfl) (by kernel_rfl) (by decide) (Below.refl _ _) ?_ ?_
  ·refine lt_s (lt_s (lt_s (lt_s (lt_s (lt_s (lt_s (lt_s (lt_s (lt_s (lt_0) ?_) ?_) ?_) ?_) ?_) ?_) ?_) ?_) ?_) ?_
   ·intro f w1 hS hf aA hA
    have r13 := pO 13 hA (by kernel_rfl) z13
    exact fV rfl rfl _ (ex_loadR 31 (.tmp 13) rfl ⟨b8_7, 0, none⟩ r13 (fun _ => by kernel_rfl) [.int .u64 (s : Int), v8_5] (by kernel_rfl) ((HX_b8_7.out.keepB hS).part [.int .u64 (s : Int), v8_5] 0 (fun j u hu => by rw [Nat.zero_add]; exact hu))) hS uS
   ·intro f w1 hS hf aA hA
    have r12 := pO 12 hA (by kernel_rfl) z12
    exact fV rfl rfl _ (ex_move (.tmp 12) rfl r12) hS uS
   ·intro f w1 hS hf aA hA
    have r64 := pA 64 0 hA sbOnt12 (by kernel_rfl) zsz rfl (hf 0 (by decide))
    have r65 := pA 65 1 hA sbOnt12 (by kernel_rfl) zsz rfl (hf 1 (by decide))
    exact fC rfl rfl 9 #[(.tmp 64), (.tmp 65)] _ rfl #[.agg #[.int .u64 (s : Int), v8_5], v7_5] (mp2 r64 r65) (fun w => by kernel_rfl) _ (ownR_t (srt (([x]).map fewS)) (([] : List Su)) s _ (tabP s m (eitU (srt ((la).map fewS)) (srt (([x]).map fewS)))) _ (minU (srt ((la).map fewS)) (srt (([x]).map fewS))) (List.replicate m zC, [fewS x], []) (own_more HGM.out (asc_eitU _ _) (asc_minU _ _) (on_more _ _) (on_less _ _)) (on_okm HGM.out _ _) rfl rfl w1 HSD.out (HL.out.keep (HB.out.trans (hS.mono HB.out.size)) HSZ.out) (tabP_small 1000000 (Nat.le_trans HM4.out (by decide))) (Nat.le_trans HLE.out (by decide)) (HU8_5.out.keep hS) (HU7_5.out.keep hS) (tabP_good HGM.out) (good_asc (asc_minU _ _) (Nat.le_trans HLE.out (by decide)))) hS (fun _ _ ⟨zz, a, b⟩ => ⟨zz, uS.trans a, b⟩)
   ·intro f w1 hS hf aA hA
    obtain ⟨x66, hx66, hr66⟩ := hf 2 (by decide)
    have e66 := pA 66 2 hA sbOnt12 (by kernel_rfl) zsz rfl hx66
    exact flw_val rfl rfl (.tuple #[(fl x66 0), (fl x66 1), .int .i64 0]) (ex_move (.tmp 66) rfl e66) hS (Flz.refl _) ⟨x66, uS, hr66⟩
   ·intro f w1 hS hf aA hA
    obtain ⟨x63, hx63, hr63⟩ := hf 3 (by decide)
    have e63 := pA 63 3 hA sbOnt12 (by kernel_rfl) zsz rfl hx63
    exact flw_val rfl rfl ((fl x63 0)) (ex_extract (.tmp 63) 0 rfl e63 rfl) hS (Flz.refl _) ⟨x63, uS, hr63⟩
   ·intro f w1 hS hf aA hA
    obtain ⟨x63, hx63, hr63⟩ := hf 3 (by decide)
    have e63 := pA 63 3 hA sbOnt12 (by kernel_rfl) zsz rfl hx63
    exact flw_val rfl rfl ((fl x63 1)) (ex_extract (.tmp 63) 1 rfl e63 rfl) hS (Flz.refl _) ⟨x63, uS, hr63⟩
   ·intro f w1 hS hf aA hA
    obtain ⟨x63, hx63, hr63⟩ := hf 3 (by decide)
    have e63 := pA 63 3 hA sbOnt12 (by kernel_rfl) zsz rfl hx63
    exact fV rfl rfl _ (ex_extract (.tmp 63) 2 rfl e63 rfl) hS uS
   ·intro f w1 hS hf aA hA
    obtain ⟨x67, hx67, hr67⟩ := hf 4 (by decide)
    have e67 := pA 67 4 hA sbOnt12 (by kernel_rfl) zsz rfl hx67
    exact flw_val rfl rfl ((fl x67 0)) (ex_assign (.tmp 67) rfl e67) hS (Flz.refl _) ⟨x67, uS, hr67⟩
   ·intro f w1 hS hf aA hA
    obtain ⟨x68, hx68, hr68⟩ := hf 5 (by decide)
    have e68 := pA 68 5 hA sbOnt12 (by kernel_rfl) zsz rfl hx68
    exact flw_val rfl rfl ((fl x68 1)) (ex_assign (.tmp 68) rfl e68) hS (Flz.refl _) ⟨x68, uS, hr68⟩
   ·intro f w1 hS hf aA hA
    have r69 := pA 69 6 hA sbOnt12 (by kernel_rfl) zsz rfl (hf 6 (by decide))
    exact fV rfl rfl _ (ex_assign (.tmp 69) rfl r69) hS uS
  intro f u12 hS hf hap
  have h0 : f 0 = .agg #[.int .u64 (s : Int), v8_5] := hf 0 (by decide)
  have h1 : f 1 = v7_5 := hf 1 (by decide)
  obtain ⟨v12_2, h2, -⟩ := hf 2 (by decide)
  obtain ⟨v12_3, h3, -⟩ := hf 3 (by decide)
  obtain ⟨v12_4, h4, -⟩ := hf 4 (by decide)
  obtain ⟨v12_5, h5, -⟩ := hf 5 (by decide)
  have h6 : f 6 = .int .i64 0 := hf 6 (by decide)
  obtain ⟨v12_7, h7, hu7⟩ := hf 7 (by decide)
  have HU12_7 := Lib.hid hu7
  clear hu7
  obtain ⟨v12_8, h8, hu8⟩ := hf 8 (by decide)
  have HU12_8 := Lib.hid hu8
  clear hu8
  have h9 : f 9 = .int .i64 0 := hf 9 (by decide)
  clear hf hap
  clear zsz z13 z12
  subst ha0
  simp only [slotsOnt12, putAll, h0, h1, h2, h3, h4, h5, h6, h7, h8, h9, Act.put, List.setIfInBounds_toArray, List.set_cons_zero, List.set_cons_succ]
  clear h0 h1 h2 h3 h4 h5 h6 h7 h8 h9
  refine tl_nil ?_
  replace HU5_1 := Lib.hid (HU5_1.out.keep hS)
  replace HU6_2 := Lib.hid (HU6_2.out.keep hS)
  replace HU7_2 := Lib.hid (HU7_2.out.keep hS)
  replace HU7_5 := Lib.hid (HU7_5.out.keep hS)
  replace HX_b8_7 := Lib.hid (HX_b8_7.out.keepB hS)
  replace HU8_5 := Lib.hid (HU8_5.out.keep hS)
  replace HX_b9_7 := Lib.hid (HX_b9_7.out.keepB hS)
  replace HU9_5 := Lib.hid (HU9_5.out.keep hS)
  replace HB := Lib.hid (HB.out.trans (hS.mono HB.out.size))
  clear hS
  go_upto_region 13 with fail
  refine wp_act (fun a0 ha0 => ?_)
  have zsz : a0.tmps.size = 103 := by rw [ha0]; rfl
  have z15 : a0.eval (.tmp 15) = .pointer (some ⟨b9_7, 0, none⟩) := by rw [ha0]; rfl
  have z11 : a0.eval (.tmp 11) = v7_2 := by rw [ha0]; rfl
  refine wrO [] slotsOnt13 waitOnt13 [Fct.val Flz 0 (.agg #[.int .u64 (s : Int), v9_5]), Fct.val Flz 1 (v7_2), Fct.obj 2 (fun v w => ∃ zz, v = .tuple #[(fl zz 0), (fl zz 1), .int .i64 0] ∧ OwnR (([] : List Su)) (srt (([x]).map fewS)) w zz) (fun _ _ _ ⟨zz, a, b⟩ he => ⟨zz, a, b.flz he⟩), Fct.obj 3 (fun v w => ∃ zz, v = .tuple #[(fl zz 0), (fl zz 1), .int .i64 0] ∧ OwnR (([] : List Su)) (srt (([x]).map fewS)) w zz) (fun _ _ _ ⟨zz, a, b⟩ he => ⟨zz, a, b.flz he⟩), Fct.obj 4 (fun v w => ∃ zz, v = (fl zz 0) ∧ OwnR (([] : List Su)) (srt (([x]).map fewS)) w zz) (fun _ _ _ ⟨zz, a, b⟩ he => ⟨zz, a, b.flz he⟩), Fct.obj 5 (fun v w => ∃ zz, v = (fl zz 1) ∧ OwnR (([] : List Su)) (srt (([x]).map fewS)) w zz) (fun _ _ _ ⟨zz, a, b⟩ he => ⟨zz, a, b.flz he⟩), Fct.val Flz 6 (.int .i64 0), Fct.obj 7 (fun v w => ∃ zz, v = (fl zz 0) ∧ OwnR (([] : List Su)) (srt (([x]).map fewS)) w zz) (fun _ _ _ ⟨zz, a, b⟩ he => ⟨zz, a, b.flz he⟩), Fct.obj 8 (fun v w => ∃ zz, v = (fl zz 1) ∧ OwnR (([] : List Su)) (srt (([x]).map fewS)) w zz) (fun _ _ _ ⟨zz, a, b⟩ he => ⟨zz, a, b.flz he⟩), Fct.val Flz 9 (.int .i64 0)] (fun w' => Below u12.heap.size u12 w') _ 10 0 chkOnt13 (by kernel_rfl) (by kernel_rfl) (by kernel_rfl) (by decide) (Below.refl _ _) ?_ ?_
  ·refine lt_s (lt_s (lt_s (lt_s (lt_s (lt_s (lt_s (lt_s (lt_s (lt_s (lt_0) ?_) ?_) ?_) ?_) ?_) ?_) ?_) ?_) ?_) ?_
   ·intro f w1 hS hf aA hA
    have r15 := pO 15 hA (by kernel_rfl) z15
    exact fV rfl rfl _ (ex_loadR 31 (.tmp 15) rfl ⟨b9_7, 0, none⟩ r15 (fun _ => by kernel_rfl) [.int .u64 (s : Int), v9_5] (by kernel_rfl) ((HX_b9_7.out.keepB hS).part [.int .u64 (s : Int), v9_5] 0 (fun j u hu => by rw [Nat.zero_add]; exact hu))) hS uS
   ·intro f w1 hS hf aA hA
    have r11 := pO 11 hA (by kernel_rfl) z11
    exact fV rfl rfl _ (ex_move (.tmp 11) rfl r11) hS uS
   ·intro f w1 hS hf aA hA
    have r71 := pA 71 0 hA sbOnt13 (by kernel_rfl) zsz rfl (hf 0 (by decide))
    have r72 := pA 72 1 hA sbOnt13 (by kernel_rfl) zsz rfl (hf 1 (by decide))
    exact fC rfl rfl 9 #[(.tmp 71), (.tmp 72)] _ rfl #[.agg #[.int .u64 (s : Int), v9_5], v7_2] (mp2 r71 r72) (fun w => by kernel_rfl) _ (ownR_t (([] : List Su)) (srt (([x]).map fewS)) s _ (tabP s m (minU (srt ((la).map fewS)) (srt (([x]).map fewS)))) _ (eitU (srt ((la).map fewS)) (srt (([x]).map fewS))) (List.replicate m zC, [], [fewS x]) (own_less HGM.out (asc_minU _ _) (asc_eitU _ _) (on_less _ _) (on_more _ _)) (on_okl HGM.out _ _) rfl rfl w1 HSD.out (HL.out.keep (HB.out.trans (hS.mono HB.out.size)) HSZ.out) (tabP_small 1000000 (Nat.le_trans HM4.out (by decide))) (Nat.le_trans HMO.out (by decide)) (HU9_5.out.keep hS) (HU7_2.out.keep hS) (tabP_good HGM.out) (good_asc (asc_eitU _ _) (Nat.le_trans HMO.out (by decide)))) hS (fun _ _ ⟨zz, a, b⟩ => ⟨zz, uS.trans a, b⟩)
   ·intro f w1 hS hf aA hA
    obtain ⟨x73, hx73, hr73⟩ := hf 2 (by decide)
    have e73 := pA 73 2 hA sbOnt13 (by kernel_rfl) zsz rfl hx73
    exact flw_val rfl rfl (.tuple #[(fl x73 0), (fl x73 1), .int .i64 0]) (ex_move (.tmp 73) rfl e73) hS (Flz.refl _) ⟨x73, uS, hr73⟩
   ·intro f w1 hS hf aA hA
    obtain ⟨x70, hx70, hr70⟩ := hf 3 (by decide)
    have e70 := pA 70 3 hA sbOnt13 (by kernel_rfl) zsz rfl hx70
    exact flw_val rfl rfl ((fl x70 0)) (ex_extract (.tmp 70) 0 rfl e70 rfl) hS (Flz.refl _) ⟨x70, uS, hr70⟩
   ·intro f w1 hS hf aA hA
    obtain ⟨x70, hx70, hr70⟩ := hf 3 (by decide)
    have e70 := pA 70 3 hA sbOnt13 (by kernel_rfl) zsz rfl hx70
    exact flw_val rfl rfl ((fl x70 1)) (ex_extract (.tmp 70) 1 rfl e70 rfl) hS (Flz.refl _) ⟨x70, uS, hr70⟩
   ·intro f w1 hS hf aA hA
    obtain ⟨x70, hx70, hr70⟩ := hf 3 (by decide)
    have e70 := pA 70 3 hA sbOnt13 (by kernel_rfl) zsz rfl hx70
    exact fV rfl rfl _ (ex_extract (.tmp 70) 2 rfl e70 rfl) hS uS
   ·intro f w1 hS hf aA hA
    obtain ⟨x74, hx74, hr74⟩ := hf 4 (by decide)
    have e74 := pA 74 4 hA sbOnt13 (by kernel_rfl) zsz rfl hx74
    exact flw_val rfl rfl ((fl x74 0)) (ex_assign (.tmp 74) rfl e74) hS (Flz.refl _) ⟨x74, uS, hr74⟩
   ·intro f w1 hS hf aA hA
    obtain ⟨x75, hx75, hr75⟩ := hf 5 (by decide)
    have e75 := pA 75 5 hA sbOnt13 (by kernel_rfl) zsz rfl hx75
    exact flw_val rfl rfl ((fl x75 1)) (ex_assign (.tmp 75) rfl e75) hS (Flz.refl _) ⟨x75, uS, hr75⟩
   ·intro f w1 hS hf aA hA
    have r76 := pA 76 6 hA sbOnt13 (by kernel_rfl) zsz rfl (hf 6 (by decide))
    exact fV rfl rfl _ (ex_assign (.tmp 76) rfl r76) hS uS
  intro f u13 hS hf hap
  have h0 : f 0 = .agg #[.int .u64 (s : Int), v9_5] := hf 0 (by decide)
  have h1 : f 1 = v7_2 := hf 1 (by decide)
  obtain ⟨v13_2, h2, -⟩ := hf 2 (by decide)
  obtain ⟨v13_3, h3, -⟩ := hf 3 (by decide)
  obtain ⟨v13_4, h4, -⟩ := hf 4 (by decide)
  obtain ⟨v13_5, h5, -⟩ := hf 5 (by decide)
  have h6 : f 6 = .int .i64 0 := hf 6 (by decide)
  obtain ⟨v13_7, h7, hu7⟩ := hf 7 (by decide)
  have HU13_7 := Lib.hid hu7
  clear hu7
  obtain ⟨v13_8, h8, hu8⟩ := hf 8 (by decide)
  have HU13_8 := Lib.hid hu8
  clear hu8
  have h9 : f 9 = .int .i64 0 := hf 9 (by decide)
  clear hf hap
  clear zsz z15 z11
  subst ha0
  simp only [slotsOnt13, putAll, h0, h1, h2, h3, h4, h5, h6, h7, h8, h9, Act.put, List.setIfInBounds_toArray, List.set_cons_zero, List.set_cons_succ]
  clear h0 h1 h2 h3 h4 h5 h6 h7 h8 h9
  refine tl_nil ?_
  replace HU5_1 := Lib.hid (HU5_1.out.keep hS)
  replace HU6_2 := Lib.hid (HU6_2.out.keep hS)
  replace HU7_2 := Lib.hid (HU7_2.out.keep hS)
  replace HU7_5 := Lib.hid (HU7_5.out.keep hS)
  replace HX_b8_7 := Lib.hid (HX_b8_7.out.keepB hS)
  replace HU8_5 := Lib.hid (HU8_5.out.keep hS)
  replace HX_b9_7 := Lib.hid (HX_b9_7.out.keepB hS)
  replace HU9_5 := Lib.hid (HU9_5.out.keep hS)
  replace HU12_7 := Lib.hid (HU12_7.out.keep hS)
  replace HU12_8 := Lib.hid (HU12_8.out.keep hS)
  replace HB := Lib.hid (HB.out.trans (hS.mono HB.out.size))
  clear hS
  go_upto_region 14 with fail
  refine wp_act (fun a0 ha0 => ?_)
  have zsz : a0.tmps.size = 103 := by rw [ha0]; rfl
  have z19 : a0.eval (.tmp 19) = .int .i64 0 := by rw [ha0]; rfl
  have z22 : a0.eval (.tmp 22) = .int .i64 0 := by rw [ha0]; rfl
  have z17 : a0.eval (.tmp 17) = (fl v12_7 0) := by rw [ha0]; rfl
  have z10 : a0.eval (.tmp 10) = v6_2 := by rw [ha0]; rfl
  have z18 : a0.eval (.tmp 18) = (fl v12_8 1) := by rw [ha0]; rfl
  have z20 : a0.eval (.tmp 20) = (fl v13_7 0) := by rw [ha0]; rfl
  have z21 : a0.eval (.tmp 21) = (fl v13_8 1) := by rw [ha0]; rfl
  refine wrO [] slotsOnt14 waitOnt14 [Fct.val Flz 0 (.int .i64 0), Fct.val Flz 1 (.bool true), Fct.val Flz 2 (.bool true), Fct.val Flz 3 (.int .i64 0), Fct.val Flz 4 (.bool true), Fct.val Flz 5 (.bool true), Fct.val Flz 6 (.bool true), Fct.val Flz 7 ((fl v12_7 0)), Fct.val Flz 8 (v6_2), Fct.val Flz 9 (.bool true), Fct.val Flz 10 (.bool true), Fct.val Flz 11 (.bool true), Fct.val Flz 12 ((fl v12_8 1)), Fct.val Flz 13 (.int .i64 0), Fct.val Flz 14 (.bool true), Fct.val Flz 15 (.bool true), Fct.val Flz 16 (.bool true), Fct.val Flz 17 ((fl v13_7 0)), Fct.val Flz 18 (.int .i64 0), Fct.val Flz 19 (.bool true), Fct.val Flz 20 (.bool true), Fct.val Flz 21 (.bool true), Fct.val Flz 22 ((fl v13_8 1)), Fct.val Flz 23 (v6_2), Fct.val Flz 24 (.bool true), Fct.val Flz 25 (.bool true)] (fun w' => Below u13.heap.size u13 w') _ 26 1 chkOnt14 (by kernel_rfl) (by kernel_rfl) (by kernel_rfl) (by decide) (Below.refl _ _) ?_ ?_
  ·refine lt_s (lt_s (lt_s (lt_s (lt_s (lt_s (lt_s (lt_s (lt_s (lt_s (lt_s (lt_s (lt_s (lt_s (lt_s (lt_s (lt_s (lt_s (lt_s (lt_s (lt_s (lt_s (lt_s (lt_s (lt_s (lt_s (lt_0) ?_) ?_) ?_) ?_) ?_) ?_) ?_) ?_) ?_) ?_) ?_) ?_) ?_) ?_) ?_) ?_) ?_) ?_) ?_) ?_) ?_) ?_) ?_) ?_) ?_) ?_
   ·intro f w1 hS hf aA hA
    have r19 := pO 19 hA (by kernel_rfl) z19
    exact fV rfl rfl _ (ex_move (.tmp 19) rfl r19) hS uS
   ·intro f w1 hS hf aA hA
    have r77 := pA 77 0 hA sbOnt14 (by kernel_rfl) zsz rfl (hf 0 (by decide))
    exact fV rfl rfl _ (Eq.trans (ex_int .eql _ _ (.tmp 77) _ rfl .i64 0 0 r77 rfl (.bool ((0 : Int) == (0 : Int))) (fun _ => rfl)) (by rw [(by decide : ((0 : Int) == (0 : Int)) = true)])) hS uS
   ·intro f w1 hS hf aA hA
    have r78 := pA 78 1 hA sbOnt14 (by kernel_rfl) zsz rfl (hf 1 (by decide))
    exact fV rfl rfl _ (ex_move (.tmp 78) rfl r78) hS uS
   ·intro f w1 hS hf aA hA
    have t79 := pG 79 2 hA sbOnt14 (by kernel_rfl) zsz rfl (hf 2 (by decide))
    have r22 := pO 22 hA (by kernel_rfl) z22
    exact fV rfl ((wanted_of rfl 79 rfl t79).trans rfl) _ (ex_move (.tmp 22) rfl r22) hS uS
   ·intro f w1 hS hf aA hA
    have t79 := pG 79 2 hA sbOnt14 (by kernel_rfl) zsz rfl (hf 2 (by decide))
    have r80 := pA 80 3 hA sbOnt14 (by kernel_rfl) zsz rfl (hf 3 (by decide))
    exact fV rfl ((wanted_of rfl 79 rfl t79).trans rfl) _ (Eq.trans (ex_int .eql _ _ (.tmp 80) _ rfl .i64 0 0 r80 rfl (.bool ((0 : Int) == (0 : Int))) (fun _ => rfl)) (by rw [(by decide : ((0 : Int) == (0 : Int)) = true)])) hS uS
   ·intro f w1 hS hf aA hA
    have r79 := pA 79 2 hA sbOnt14 (by kernel_rfl) zsz rfl (hf 2 (by decide))
    have r81 := pA 81 4 hA sbOnt14 (by kernel_rfl) zsz rfl (hf 4 (by decide))
    exact fV rfl rfl (.bool true) (ex_pick (.tmp 79) (.tmp 81) _ rfl true r79 ((if_pos rfl).trans r81)) hS uS
   ·intro f w1 hS hf aA hA
    have r82 := pA 82 5 hA sbOnt14 (by kernel_rfl) zsz rfl (hf 5 (by decide))
    exact fV rfl rfl _ (ex_move (.tmp 82) rfl r82) hS uS
   ·intro f w1 hS hf aA hA
    have t83 := pG 83 6 hA sbOnt14 (by kernel_rfl) zsz rfl (hf 6 (by decide))
    have r17 := pO 17 hA (by kernel_rfl) z17
    exact fV rfl ((wanted_of rfl 83 rfl t83).trans rfl) _ (ex_move (.tmp 17) rfl r17) hS uS
   ·intro f w1 hS hf aA hA
    have t83 := pG 83 6 hA sbOnt14 (by kernel_rfl) zsz rfl (hf 6 (by decide))
    have r10 := pO 10 hA (by kernel_rfl) z10
    exact fV rfl ((wanted_of rfl 83 rfl t83).trans rfl) _ (ex_move (.tmp 10) rfl r10) hS uS
   ·intro f w1 hS hf aA hA
    have t83 := pG 83 6 hA sbOnt14 (by kernel_rfl) zsz rfl (hf 6 (by decide))
    have r84 := pA 84 7 hA sbOnt14 (by kernel_rfl) zsz rfl (hf 7 (by decide))
    have r85 := pA 85 8 hA sbOnt14 (by kernel_rfl) zsz rfl (hf 8 (by decide))
    exact fC rfl ((wanted_of rfl 83 rfl t83).trans rfl) 10 #[(.tmp 84), (.tmp 85)] _ rfl #[(fl v12_7 0), v6_2] (mp2 r84 r85) (fun w => by kernel_rfl) _ (as_any (us_same (HU12_7.out.p.keep hS) (HU6_2.out.keep hS) (len_few [x] 10000 (show 1 ≤ 10000 by decide)) (len_few [x] 10000 (show 1 ≤ 10000 by decide))) (congrArg Value.bool (same_set (good_few [x] (show 1 ≤ 512 by decide))))) hS (fun _ _ h => uS.trans h)
   ·intro f w1 hS hf aA hA
    have r83 := pA 83 6 hA sbOnt14 (by kernel_rfl) zsz rfl (hf 6 (by decide))
    have r86 := pA 86 9 hA sbOnt14 (by kernel_rfl) zsz rfl (hf 9 (by decide))
    exact fV rfl rfl (.bool true) (ex_pick (.tmp 83) (.tmp 86) _ rfl true r83 ((if_pos rfl).trans r86)) hS uS
   ·intro f w1 hS hf aA hA
    have r87 := pA 87 10 hA sbOnt14 (by kernel_rfl) zsz rfl (hf 10 (by decide))
    exact fV rfl rfl _ (ex_move (.tmp 87) rfl r87) hS uS
   ·intro f w1 hS hf aA hA
    have t88 := pG 88 11 hA sbOnt14 (by kernel_rfl) zsz rfl (hf 11 (by decide))
    have r18 := pO 18 hA (by kernel_rfl) z18
    exact fV rfl ((wanted_of rfl 88 rfl t88).trans rfl) _ (ex_move (.tmp 18) rfl r18) hS uS
   ·intro f w1 hS hf aA hA
    have t88 := pG 88 11 hA sbOnt14 (by kernel_rfl) zsz rfl (hf 11 (by decide))
    have r89 := pA 89 12 hA sbOnt14 (by kernel_rfl) zsz rfl (hf 12 (by decide))
    obtain ⟨q9, c9, hv9, _⟩ := (HU12_8.out.m.keep hS)
    exact fV rfl ((wanted_of rfl 88 rfl t88).trans rfl) _ (Eq.trans (ex_len 26 40 (.tmp 89) rfl (by kernel_rfl) q9 (([] : List Su)).length c9 (r89.trans hv9)) (by rw [show (((([] : List Su)).length : Nat) : Int) = 0 from rfl])) hS uS
   ·intro f w1 hS hf aA hA
    have t88 := pG 88 11 hA sbOnt14 (by kernel_rfl) zsz rfl (hf 11 (by decide))
    have r90 := pA 90 13 hA sbOnt14 (by kernel_rfl) zsz rfl (hf 13 (by decide))
    exact fV rfl ((wanted_of rfl 88 rfl t88).trans rfl) _ (Eq.trans (ex_int .eql _ _ (.tmp 90) _ rfl .i64 0 0 r90 rfl (.bool ((0 : Int) == (0 : Int))) (fun _ => rfl)) (by rw [(by decide : ((0 : Int) == (0 : Int)) = true)])) hS uS
   ·intro f w1 hS hf aA hA
    have r88 := pA 88 11 hA sbOnt14 (by kernel_rfl) zsz rfl (hf 11 (by decide))
    have r91 := pA 91 14 hA sbOnt14 (by kernel_rfl) zsz rfl (hf 14 (by decide))
    exact fV rfl rfl (.bool true) (ex_pick (.tmp 88) (.tmp 91) _ rfl true r88 ((if_pos rfl).trans r91)) hS uS
   ·intro f w1 hS hf aA hA
    have r92 := pA 92 15 hA sbOnt14 (by kernel_rfl) zsz rfl (hf 15 (by decide))
    exact fV rfl rfl _ (ex_move (.tmp 92) rfl r92) hS uS
   ·intro f w1 hS hf aA hA
    have t93 := pG 93 16 hA sbOnt14 (by kernel_rfl) zsz rfl (hf 16 (by decide))
    have r20 := pO 20 hA (by kernel_rfl) z20
    exact fV rfl ((wanted_of rfl 93 rfl t93).trans rfl) _ (ex_move (.tmp 20) rfl r20) hS uS
   ·intro f w1 hS hf aA hA
    have t93 := pG 93 16 hA sbOnt14 (by kernel_rfl) zsz rfl (hf 16 (by decide))
    have r94 := pA 94 17 hA sbOnt14 (by kernel_rfl) zsz rfl (hf 17 (by decide))
    obtain ⟨q9, c9, hv9, _⟩ := (HU13_7.out.p.keep hS)
    exact fV rfl ((wanted_of rfl 93 rfl t93).trans rfl) _ (Eq.trans (ex_len 26 40 (.tmp 94) rfl (by kernel_rfl) q9 (([] : List Su)).length c9 (r94.trans hv9)) (by rw [show (((([] : List Su)).length : Nat) : Int) = 0 from rfl])) hS uS
   ·intro f w1 hS hf aA hA
    have t93 := pG 93 16 hA sbOnt14 (by kernel_rfl) zsz rfl (hf 16 (by decide))
    have r95 := pA 95 18 hA sbOnt14 (by kernel_rfl) zsz rfl (hf 18 (by decide))
    exact fV rfl ((wanted_of rfl 93 rfl t93).trans rfl) _ (Eq.trans (ex_int .eql _ _ (.tmp 95) _ rfl .i64 0 0 r95 rfl (.bool ((0 : Int) == (0 : Int))) (fun _ => rfl)) (by rw [(by decide : ((0 : Int) == (0 : Int)) = true)])) hS uS
   ·intro f w1 hS hf aA hA
    have r93 := pA 93 16 hA sbOnt14 (by kernel_rfl) zsz rfl (hf 16 (by decide))
    have r96 := pA 96 19 hA sbOnt14 (by kernel_rfl) zsz rfl (hf 19 (by decide))
    exact fV rfl rfl (.bool true) (ex_pick (.tmp 93) (.tmp 96) _ rfl true r93 ((if_pos rfl).trans r96)) hS uS
   ·intro f w1 hS hf aA hA
    have r97 := pA 97 20 hA sbOnt14 (by kernel_rfl) zsz rfl (hf 20 (by decide))
    exact fV rfl rfl _ (ex_move (.tmp 97) rfl r97) hS uS
   ·intro f w1 hS hf aA hA
    have t98 := pG 98 21 hA sbOnt14 (by kernel_rfl) zsz rfl (hf 21 (by decide))
    have r21 := pO 21 hA (by kernel_rfl) z21
    exact fV rfl ((wanted_of rfl 98 rfl t98).trans rfl) _ (ex_move (.tmp 21) rfl r21) hS uS
   ·intro f w1 hS hf aA hA
    have t98 := pG 98 21 hA sbOnt14 (by kernel_rfl) zsz rfl (hf 21 (by decide))
    have r10 := pO 10 hA (by kernel_rfl) z10
    exact fV rfl ((wanted_of rfl 98 rfl t98).trans rfl) _ (ex_move (.tmp 10) rfl r10) hS uS
   ·intro f w1 hS hf aA hA
    have t98 := pG 98 21 hA sbOnt14 (by kernel_rfl) zsz rfl (hf 21 (by decide))
    have r99 := pA 99 22 hA sbOnt14 (by kernel_rfl) zsz rfl (hf 22 (by decide))
    have r100 := pA 100 23 hA sbOnt14 (by kernel_rfl) zsz rfl (hf 23 (by decide))
    exact fC rfl ((wanted_of rfl 98 rfl t98).trans rfl) 10 #[(.tmp 99), (.tmp 100)] _ rfl #[(fl v13_8 1), v6_2] (mp2 r99 r100) (fun w => by kernel_rfl) _ (as_any (us_same (HU13_8.out.m.keep hS) (HU6_2.out.keep hS) (len_few [x] 10000 (show 1 ≤ 10000 by decide)) (len_few [x] 10000 (show 1 ≤ 10000 by decide))) (congrArg Value.bool (same_set (good_few [x] (show 1 ≤ 512 by decide))))) hS (fun _ _ h => uS.trans h)
   ·intro f w1 hS hf aA hA
    have r98 := pA 98 21 hA sbOnt14 (by kernel_rfl) zsz rfl (hf 21 (by decide))
    have r101 := pA 101 24 hA sbOnt14 (by kernel_rfl) zsz rfl (hf 24 (by decide))
    exact fV rfl rfl (.bool true) (ex_pick (.tmp 98) (.tmp 101) _ rfl true r98 ((if_pos rfl).trans r101)) hS uS
  intro f u14 hS hf hap
  have h0 : f 0 = .int .i64 0 := hf 0 (by decide)
  have h1 : f 1 = .bool true := hf 1 (by decide)
  have h2 : f 2 = .bool true := hf 2 (by decide)
  have h3 : f 3 = .int .i64 0 := hf 3 (by decide)
  have h4 : f 4 = .bool true := hf 4 (by decide)
  have h5 : f 5 = .bool true := hf 5 (by decide)
  have h6 : f 6 = .bool true := hf 6 (by decide)
  have h7 : f 7 = (fl v12_7 0) := hf 7 (by decide)
  have h8 : f 8 = v6_2 := hf 8 (by decide)
  have h9 : f 9 = .bool true := hf 9 (by decide)
  have h10 : f 10 = .bool true := hf 10 (by decide)
  have h11 : f 11 = .bool true := hf 11 (by decide)
  have h12 : f 12 = (fl v12_8 1) := hf 12 (by decide)
  have h13 : f 13 = .int .i64 0 := hf 13 (by decide)
  have h14 : f 14 = .bool true := hf 14 (by decide)
  have h15 : f 15 = .bool true := hf 15 (by decide)
  have h16 : f 16 = .bool true := hf 16 (by decide)
  have h17 : f 17 = (fl v13_7 0) := hf 17 (by decide)
  have h18 : f 18 = .int .i64 0 := hf 18 (by decide)
  have h19 : f 19 = .bool true := hf 19 (by decide)
  have h20 : f 20 = .bool true := hf 20 (by decide)
  have h21 : f 21 = .bool true := hf 21 (by decide)
  have h22 : f 22 = (fl v13_8 1) := hf 22 (by decide)
  have h23 : f 23 = v6_2 := hf 23 (by decide)
  have h24 : f 24 = .bool true := hf 24 (by decide)
  have h25 : f 25 = .bool true := hf 25 (by decide)
  clear hf hap
  clear zsz z19 z22 z17 z10 z18 z20 z21
  subst ha0
  simp only [slotsOnt14, putAll, h0, h1, h2, h3, h4, h5, h6, h7, h8, h9, h10, h11, h12, h13, h14, h15, h16, h17, h18, h19, h20, h21, h22, h23, h24, h25, Act.put, List.setIfInBounds_toArray, List.set_cons_zero, List.set_cons_succ]
  clear h0 h1 h2 h3 h4 h5 h6 h7 h8 h9 h10 h11 h12 h13 h14 h15 h16 h17 h18 h19 h20 h21 h22 h23 h24 h25
  have hBS := HB.out.trans (hS.mono HB.out.size)
  replace HU5_1 := Lib.hid (HU5_1.out.keep hS)
  replace HU6_2 := Lib.hid (HU6_2.out.keep hS)
  replace HU7_2 := Lib.hid (HU7_2.out.keep hS)
  replace HU7_5 := Lib.hid (HU7_5.out.keep hS)
  replace HX_b8_7 := Lib.hid (HX_b8_7.out.keepB hS)
  replace HU8_5 := Lib.hid (HU8_5.out.keep hS)
  replace HX_b9_7 := Lib.hid (HX_b9_7.out.keepB hS)
  replace HU9_5 := Lib.hid (HU9_5.out.keep hS)
  replace HU12_7 := Lib.hid (HU12_7.out.keep hS)
  replace HU12_8 := Lib.hid (HU12_8.out.keep hS)
  replace HU13_7 := Lib.hid (HU13_7.out.keep hS)
  replace HU13_8 := Lib.hid (HU13_8.out.keep hS)
  clear hS
  refine tl_pure rfl (by kernel_rfl) (.bool true) (ex_assign (.tmp 102) rfl rfl) ?_
  try simp only [Act.put, List.setIfInBounds_toArray, List.set_cons_zero, List.set_cons_succ]
  refine tl_nil ?_
  replace HB := Lib.hid hBS
  clear hBS
  go_wp2_with fail
  go_ret
  exact ⟨rfl, HB.out⟩
theorem peelOne_law (s : Nat) (n : Int) (la : List Int) (x : Int) (qa : Option Addr) (ca : Nat) (w : World) (hs : s < 18446744073709551616) (hL : Laid w) (ha : Sees w w.heap.size qa (la.map fun n => Value.int .i64 n)) : Calls Tryd.prog 3 #[.int .u64 (s : Int), .int .i64 n, .slice qa la.length ca, .int .i64 x] w fun e w' => e = .returned (.bool true) ∧ Below w.heap.size w w' := peelOne_b s n la x qa ca w w (Below.refl _ _) hs hL ha
end Go.Proofs.YtnkcehmgagpadabDoor
