/- The law PeelRoom: it answers true. Conditions: the sums' tables are laid; a seed of 64 bits; what comes in lies in memory. -/
import Derived.Test.YtnkcehmgagpadaaDoorSq
import Derived.Test.YtnkcehmgagpadaaDoorQw
namespace Go.Proofs.YtnkcehmgagpadaaDoor
open Go.RowKit
theorem ownB_parts {B : List Su} {q : Pst} (h : ownB B q = true) : okP q = true ∧ minU (srt q.2.2) B = [] ∧ botU (srt q.2.1) B = [] := by
 unfold ownB at h
 rw [Bool.and_eq_true, Bool.and_eq_true] at h
 exact ⟨h.1.1, List.eq_nil_of_length_eq_zero (of_decide_eq_true h.1.2), List.eq_nil_of_length_eq_zero (of_decide_eq_true h.2)⟩
def waitRo1 (i : Nat) : List Nat := ([[], [0]] : List (List Nat)).getD i []
def slotsRo1 : List (Nat × Nat) := [(16, 0), (17, 1)]
theorem sbRo1 : slotsB slotsRo1 = true := by kernel_rfl
theorem chkRo1 : flwO slotsRo1 waitRo1 2 (regOf Tryd.f5.body 1) = true := by kernel_rfl
def waitRo5 (i : Nat) : List Nat := ([[], [0], [], [2], [1], [3]] : List (List Nat)).getD i []
def slotsRo5 : List (Nat × Nat) := [(30, 0), (31, 1), (32, 2), (33, 3), (9, 4), (10, 5)]
theorem sbRo5 : slotsB slotsRo5 = true := by kernel_rfl
theorem chkRo5 : flwO slotsRo5 waitRo5 6 (regOf Tryd.f5.body 5) = true := by kernel_rfl
def waitRof6 (i : Nat) : List Nat := ([[], [], [], [0, 1, 2], [3], [4], [4], [], [0, 1, 2, 3, 4, 5, 6, 7], [0, 1, 2, 3, 4, 5, 6, 7, 8]] : List (List Nat)).getD i []
def slotsRof6 : List (Nat × Nat) := [(35, 0), (36, 1), (37, 2), (38, 3), (34, 4), (39, 5), (40, 6), (11, 7), (12, 9)]
theorem sbRof6 : slotsB slotsRof6 = true := by kernel_rfl
theorem chkRof6 : flwO slotsRof6 waitRof6 8 (regOf Tryd.f5.body 6) = true := by kernel_rfl
def waitRof7 (i : Nat) : List Nat := ([[], [0]] : List (List Nat)).getD i []
def slotsRof7 : List (Nat × Nat) := [(41, 0), (42, 1)]
theorem sbRof7 : slotsB slotsRof7 = true := by kernel_rfl
theorem chkRof7 : flwO slotsRof7 waitRof7 2 (regOf Tryd.f5.body 7) = true := by kernel_rfl
def waitRotf9 (i : Nat) : List Nat := ([[], [], [0, 1], [2], [3], [3], [3], [4], [5], [6]] : List (List Nat)).getD i []
def slotsRotf9 : List (Nat × Nat) := [(46, 0), (47, 1), (48, 2), (45, 3), (49, 4), (50, 5), (51, 6), (13, 7), (14, 8), (15, 9)]
theorem sbRotf9 : slotsB slotsRotf9 = true := by kernel_rfl
theorem chkRotf9 : flwO slotsRotf9 waitRotf9 10 (regOf Tryd.f5.body 9) = true := by kernel_rfl
def waitRotf10 (i : Nat) : List Nat := ([[], [0]] : List (List Nat)).getD i []
def slotsRotf10 : List (Nat × Nat) := [(52, 0), (53, 1)]
theorem sbRotf10 : slotsB slotsRotf10 = true := by kernel_rfl
theorem chkRotf10 : flwO slotsRotf10 waitRotf10 2 (regOf Tryd.f5.body 10) = true := by kernel_rfl
def waitRott12 (i : Nat) : List Nat := ([[], [0], [], [2], [1, 3], [], [5], [], [7], [6, 8], [4, 9], [10], [11], [11], [11, 12, 13], [11, 14], [11, 15], [11, 16], [17], [18], [18], [18, 19, 20], [18, 21], [18, 22], [18, 23], [0, 1, 2, 3, 4, 5, 6, 7, 8, 9, 10, 11, 12, 13, 14, 15, 16, 17, 18, 19, 20, 21, 22, 23, 24]] : List (List Nat)).getD i []
def slotsRott12 : List (Nat × Nat) := [(56, 0), (57, 1), (58, 2), (59, 3), (60, 4), (61, 5), (62, 6), (63, 7), (64, 8), (65, 9), (66, 10), (67, 11), (68, 12), (69, 13), (70, 14), (71, 15), (72, 16), (73, 17), (74, 18), (75, 19), (76, 20), (77, 21), (78, 22), (79, 23), (80, 24), (8, 25)]
theorem sbRott12 : slotsB slotsRott12 = true := by kernel_rfl
theorem chkRott12 : flwO slotsRott12 waitRott12 25 (regOf Tryd.f5.body 12) = true := by kernel_rfl
set_option maxHeartbeats 32000000 in
set_option maxRecDepth 100000 in
theorem peelRoom_b (s : Nat) (n : Int) (la lb : List Int) (qa qb : Option Addr) (ca cb : Nat) (w w0 : World) (hB : Below w.heap.size w w0) (hs : s < 18446744073709551616) (hL : Laid w) (ha : Sees w w.heap.size qa (la.map fun n => Value.int .i64 n)) (hb : Sees w w.heap.size qb (lb.map fun n => Value.int .i64 n)) : Calls Tryd.prog 5 #[.int .u64 (s : Int), .int .i64 n, .slice qa la.length ca, .slice qb lb.length cb] w0 fun e w' => e = .returned (.bool true) ∧ Below w.heap.size w w' := by
 have HB := Lib.hid hB
 clear hB
 have HL := Lib.hid hL
 have HSZ := Lib.hid hL.size
 have HSD := Lib.hid hs
 have HSA : Hid (Ins w (.slice qa la.length ca) la) := Lib.hid ⟨qa, ca, rfl, ha⟩
 have HSB : Hid (Ins w (.slice qb lb.length cb) lb) := Lib.hid ⟨qb, cb, rfl, hb⟩
 clear hL hs ha hb
 go_enter Tryd.func5, Tryd.ntmps5
 go_upto_region 0 with fail
 refine wp_region_lit ?_
 try simp only [Act.put, List.setIfInBounds_toArray, List.set_cons_zero, List.set_cons_succ]
 refine lp_pure (v := .bool false) rfl (ex_assign _ rfl rfl) ?_
 try simp only [Act.put, List.setIfInBounds_toArray, List.set_cons_zero, List.set_cons_succ]
 refine wpList_nil ?_
 go_upto_region 1 with fail
 refine wp_act (fun a0 ha0 => ?_)
 have zsz : a0.tmps.size = 81 := by rw [ha0]; rfl
 refine wrO [] slotsRo1 waitRo1 [Fct.val Flz 0 (.bool true), Fct.val Flz 1 (.bool false)] (fun w' => Below w0.heap.size w0 w') _ 2 0 chkRo1 (by kernel_rfl) (by kernel_rfl) (by kernel_rfl) (by decide) (Below.refl _ _) ?_ ?_
 ·refine lt_s (lt_s (lt_0) ?_) ?_
  ·intro f w1 hS hf aA hA
   exact fC rfl rfl 8 #[] _ rfl #[] (by kernel_rfl) (fun w => by kernel_rfl) _ (awake16_any w1 (HL.out.keep (HB.out.trans (hS.mono HB.out.size)) HSZ.out)) hS (fun _ _ h => uS.trans h)
  ·intro f w1 hS hf aA hA
   have r16 := pA 16 0 hA sbRo1 (by kernel_rfl) zsz rfl (hf 0 (by decide))
   exact fV rfl rfl _ (ex_not _ (.tmp 16) rfl r16) hS uS
 intro f u1 hS hf hap
 have h0 : f 0 = .bool true := hf 0 (by decide)
 have h1 : f 1 = .bool false := hf 1 (by decide)
 clear hf hap
 clear zsz
 subst ha0
 simp only [slotsRo1, putAll, h0, h1, Act.put, List.setIfInBounds_toArray, List.set_cons_zero, List.set_cons_succ]
 clear h0 h1
 refine tl_nil ?_
 replace HB := Lib.hid (HB.out.trans (hS.mono HB.out.size))
 clear hS
 by_cases h1 : 30 < la.length
 ·have k1 : (30 : Int) < (la.length : Int) := by omega
  go_wp2_with fail
  go_ret
  exact ⟨rfl, HB.out⟩
 have k1 : ¬ (30 : Int) < (la.length : Int) := by omega
 by_cases h2 : 30 < lb.length
 ·have k2 : (30 : Int) < (lb.length : Int) := by omega
  go_wp2_with fail
  go_ret
  exact ⟨rfl, HB.out⟩
 have k2 : ¬ (30 : Int) < (lb.length : Int) := by omega
 by_cases h3 : 90 < n
 ·go_wp2_with fail
  go_ret
  exact ⟨rfl, HB.out⟩
 have HLA : Hid (la.length ≤ 30) := Lib.hid (by omega)
 have HLB : Hid (lb.length ≤ 30) := Lib.hid (by omega)
 clear h1 h2
 obtain ⟨gd, hgd⟩ : ∃ gd, goodN n = gd := ⟨_, rfl⟩
 have HGD := Lib.hid hgd
 clear hgd
 go_upto_region 5 with fail
 refine wp_act (fun a0 ha0 => ?_)
 have zsz : a0.tmps.size = 81 := by rw [ha0]; rfl
 have z2 : a0.eval (.tmp 2) = .slice qa la.length ca := by rw [ha0]; rfl
 have z3 : a0.eval (.tmp 3) = .slice qb lb.length cb := by rw [ha0]; rfl
 refine wrO [] slotsRo5 waitRo5 [Fct.val Flz 0 (.slice qa la.length ca), Fct.obj 1 (fun v w => Us w v (srt ((la).map fewS))) (fun _ _ _ h he => h.flz he), Fct.val Flz 2 (.slice qb lb.length cb), Fct.obj 3 (fun v w => Us w v (srt ((lb).map fewS))) (fun _ _ _ h he => h.flz he), (⟨([4, 1], fun f _ => f 4 = f 1), fun f f' _ _ h _ hd => (show f' 4 = f' 1 by rw [hd 4 (by simp), hd 1 (by simp)]; exact h)⟩ : Fct Flz), (⟨([5, 3], fun f _ => f 5 = f 3), fun f f' _ _ h _ hd => (show f' 5 = f' 3 by rw [hd 5 (by simp), hd 3 (by simp)]; exact h)⟩ : Fct Flz)] (fun w' => Below u1.heap.size u1 w') _ 6 0 chkRo5 (by kernel_rfl) (by kernel_rfl) (by kernel_rfl) (by decide) (Below.refl _ _) ?_ ?_
 ·refine lt_s (lt_s (lt_s (lt_s (lt_s (lt_s (lt_0) ?_) ?_) ?_) ?_) ?_) ?_
  ·intro f w1 hS hf aA hA
   have r2 := pO 2 hA (by kernel_rfl) z2
   exact fV rfl rfl _ (ex_move (.tmp 2) rfl r2) hS uS
  ·intro f w1 hS hf aA hA
   have r30 := pA 30 0 hA sbRo5 (by kernel_rfl) zsz rfl (hf 0 (by decide))
   exact flw_call rfl rfl 12 #[(.tmp 30)] _ rfl #[.slice qa la.length ca] (mp1 r30) (fun w => by kernel_rfl) (fun v w' => Us w' v (srt ((la).map fewS))) (few16_us _ (la) w1 (HL.out.keep (HB.out.trans (hS.mono HB.out.size)) HSZ.out) (Nat.le_trans HLA.out (by decide)) (HSA.out.keep (HB.out.trans (hS.mono HB.out.size)))) (fun v w' hr hb => ⟨hS.trans (hb.mono hS.size), Flz.of hb, (show Us w' (updF f 1 v 1) (srt ((la).map fewS)) by rw [updF_self]; exact hr)⟩)
  ·intro f w1 hS hf aA hA
   have r3 := pO 3 hA (by kernel_rfl) z3
   exact fV rfl rfl _ (ex_move (.tmp 3) rfl r3) hS uS
  ·intro f w1 hS hf aA hA
   have r32 := pA 32 2 hA sbRo5 (by kernel_rfl) zsz rfl (hf 2 (by decide))
   exact flw_call rfl rfl 12 #[(.tmp 32)] _ rfl #[.slice qb lb.length cb] (mp1 r32) (fun w => by kernel_rfl) (fun v w' => Us w' v (srt ((lb).map fewS))) (few16_us _ (lb) w1 (HL.out.keep (HB.out.trans (hS.mono HB.out.size)) HSZ.out) (Nat.le_trans HLB.out (by decide)) (HSB.out.keep (HB.out.trans (hS.mono HB.out.size)))) (fun v w' hr hb => ⟨hS.trans (hb.mono hS.size), Flz.of hb, (show Us w' (updF f 3 v 3) (srt ((lb).map fewS)) by rw [updF_self]; exact hr)⟩)
  ·intro f w1 hS hf aA hA
   have hu1 : Us w1 (f 1) (srt ((la).map fewS)) := (hf 1 (by decide))
   have e31 := pA 31 1 hA sbRo5 (by kernel_rfl) zsz rfl rfl
   exact flw_val rfl rfl (f 1) (ex_assign (.tmp 31) rfl e31) hS (Flz.refl _) (show updF f 4 (f 1) 4 = updF f 4 (f 1) 1 by rw [updF_self, updF_ne f _ (by decide)])
  ·intro f w1 hS hf aA hA
   have hu3 : Us w1 (f 3) (srt ((lb).map fewS)) := (hf 3 (by decide))
   have e33 := pA 33 3 hA sbRo5 (by kernel_rfl) zsz rfl rfl
   exact flw_val rfl rfl (f 3) (ex_assign (.tmp 33) rfl e33) hS (Flz.refl _) (show updF f 5 (f 3) 5 = updF f 5 (f 3) 3 by rw [updF_self, updF_ne f _ (by decide)])
 intro f u5 hS hf hap
 have h0 : f 0 = .slice qa la.length ca := hf 0 (by decide)
 obtain ⟨v5_1, h1, hu1⟩ : ∃ v, f 1 = v ∧ Us u5 v (srt ((la).map fewS)) := ⟨_, rfl, (hf 1 (by decide))⟩
 have HU5_1 := Lib.hid hu1
 clear hu1
 have h2 : f 2 = .slice qb lb.length cb := hf 2 (by decide)
 obtain ⟨v5_3, h3, hu3⟩ : ∃ v, f 3 = v ∧ Us u5 v (srt ((lb).map fewS)) := ⟨_, rfl, (hf 3 (by decide))⟩
 have HU5_3 := Lib.hid hu3
 clear hu3
 have h4 : f 4 = v5_1 := Eq.trans (hf 4 (by decide)) h1
 have h5 : f 5 = v5_3 := Eq.trans (hf 5 (by decide)) h3
 clear hf hap
 clear zsz z2 z3
 subst ha0
 simp only [slotsRo5, putAll, h0, h1, h2, h3, h4, h5, Act.put, List.setIfInBounds_toArray, List.set_cons_zero, List.set_cons_succ]
 clear h0 h1 h2 h3 h4 h5
 refine tl_nil ?_
 replace HB := Lib.hid (HB.out.trans (hS.mono HB.out.size))
 clear hS
 cases gd
 ·go_upto_region 6 with fail
  refine wp_act (fun a0 ha0 => ?_)
  have zsz : a0.tmps.size = 81 := by rw [ha0]; rfl
  have z0 : a0.eval (.tmp 0) = .int .u64 (s : Int) := by rw [ha0]; rfl
  have z1 : a0.eval (.tmp 1) = .int .i64 n := by rw [ha0]; rfl
  have z9 : a0.eval (.tmp 9) = v5_1 := by rw [ha0]; rfl
  refine wrO [] slotsRof6 waitRof6 [Fct.val Flz 0 (.int .u64 (s : Int)), Fct.val Flz 1 (.int .i64 n), Fct.val Flz 2 (v5_1), Fct.obj 3 (fun v w => ∃ zz, v = .tuple #[.agg #[.int .u64 0, zz], .int .i64 1] ∧ Cs w zz (([] : List Ce))) (fun _ _ _ ⟨zz, a, b⟩ he => ⟨zz, a, b.flz he⟩), Fct.obj 4 (fun v w => ∃ zz, v = .tuple #[.agg #[.int .u64 0, zz], .int .i64 1] ∧ Cs w zz (([] : List Ce))) (fun _ _ _ ⟨zz, a, b⟩ he => ⟨zz, a, b.flz he⟩), Fct.obj 5 (fun v w => ∃ zz, v = .agg #[.int .u64 0, zz] ∧ Cs w zz (([] : List Ce))) (fun _ _ _ ⟨zz, a, b⟩ he => ⟨zz, a, b.flz he⟩), Fct.val Flz 6 (.int .i64 1), Fct.obj 7 (fun v w => ∃ g, v = .pointer (some ⟨g, 0, none⟩) ∧ u5.heap.size ≤ g ∧ Has w g 28 ([.int .u64 0, .slice none 0 0])) (fun _ _ _ ⟨g, a, b, c⟩ he => ⟨g, a, b, c.flz he (by decide)⟩)] (fun w' => Below u5.heap.size u5 w') _ 8 2 chkRof6 (by kernel_rfl) (by kernel_rfl) (by kernel_rfl) (by decide) (Below.refl _ _) ?_ ?_
  ·refine lt_s (lt_s (lt_s (lt_s (lt_s (lt_s (lt_s (lt_s (lt_0) ?_) ?_) ?_) ?_) ?_) ?_) ?_) ?_
   ·intro f w1 hS hf aA hA
    have r0 := pO 0 hA (by kernel_rfl) z0
    exact fV rfl rfl _ (ex_move (.tmp 0) rfl r0) hS uS
   ·intro f w1 hS hf aA hA
    have r1 := pO 1 hA (by kernel_rfl) z1
    exact fV rfl rfl _ (ex_move (.tmp 1) rfl r1) hS uS
   ·intro f w1 hS hf aA hA
    have r9 := pO 9 hA (by kernel_rfl) z9
    exact fV rfl rfl _ (ex_move (.tmp 9) rfl r9) hS uS
   ·intro f w1 hS hf aA hA
    have r35 := pA 35 0 hA sbRof6 (by kernel_rfl) zsz rfl (hf 0 (by decide))
    have r36 := pA 36 1 hA sbRof6 (by kernel_rfl) zsz rfl (hf 1 (by decide))
    have r37 := pA 37 2 hA sbRof6 (by kernel_rfl) zsz rfl (hf 2 (by decide))
    exact fC rfl rfl 11 #[(.tmp 35), (.tmp 36), (.tmp 37)] _ rfl #[.int .u64 (s : Int), .int .i64 n, v5_1] (mp3 r35 r36 r37) (fun w => by kernel_rfl) _ (of_f s n _ (srt ((la).map fewS)) HGD.out w1 HSD.out (HL.out.keep (HB.out.trans (hS.mono HB.out.size)) HSZ.out) (len_few _ 10000 (Nat.le_trans HLA.out (by decide))) (HU5_1.out.keep hS)) hS (fun _ _ ⟨zz, a, b⟩ => ⟨zz, uS.trans a, b⟩)
   ·intro f w1 hS hf aA hA
    obtain ⟨x38, hx38, hr38⟩ := hf 3 (by decide)
    have e38 := pA 38 3 hA sbRof6 (by kernel_rfl) zsz rfl hx38
    exact flw_val rfl rfl (.tuple #[.agg #[.int .u64 0, x38], .int .i64 1]) (ex_move (.tmp 38) rfl e38) hS (Flz.refl _) ⟨x38, uS, hr38⟩
   ·intro f w1 hS hf aA hA
    obtain ⟨x34, hx34, hr34⟩ := hf 4 (by decide)
    have e34 := pA 34 4 hA sbRof6 (by kernel_rfl) zsz rfl hx34
    exact flw_val rfl rfl (.agg #[.int .u64 0, x34]) (ex_extract (.tmp 34) 0 rfl e34 rfl) hS (Flz.refl _) ⟨x34, uS, hr34⟩
   ·intro f w1 hS hf aA hA
    obtain ⟨x34, hx34, hr34⟩ := hf 4 (by decide)
    have e34 := pA 34 4 hA sbRof6 (by kernel_rfl) zsz rfl hx34
    exact fV rfl rfl _ (ex_extract (.tmp 34) 1 rfl e34 rfl) hS uS
   ·intro f w1 hS hf aA hA
    exact flw_wp rfl rfl (fun K hK => wp_alloc_row 28 rfl (.agg #[.int .u64 0, .slice none 0 0]) (fun w => by kernel_rfl) (hK _ _ (hS.alloc hS.size _) (Flz.al _ _) ⟨_, uS, hS.size, Has.made' _ _ _ _ rfl⟩))
  intro f x6 hS hf hap
  have h0 : f 0 = .int .u64 (s : Int) := hf 0 (by decide)
  have h1 : f 1 = .int .i64 n := hf 1 (by decide)
  have h2 : f 2 = v5_1 := hf 2 (by decide)
  obtain ⟨v6_3, h3, -⟩ := hf 3 (by decide)
  obtain ⟨v6_4, h4, -⟩ := hf 4 (by decide)
  obtain ⟨v6_5, h5, hu5⟩ := hf 5 (by decide)
  have HU6_5 := Lib.hid hu5
  clear hu5
  have h6 : f 6 = .int .i64 1 := hf 6 (by decide)
  obtain ⟨b6_7, h7, hgb7, hhb7⟩ := hf 7 (by decide)
  clear hf hap
  clear zsz z0 z1 z9
  subst ha0
  simp only [slotsRof6, putAll, h0, h1, h2, h3, h4, h5, h6, h7, Act.put, List.setIfInBounds_toArray, List.set_cons_zero, List.set_cons_succ]
  clear h0 h1 h2 h3 h4 h5 h6 h7
  refine tl_store rfl (by kernel_rfl) 28 (.tmp 11) (.tmp 39) rfl b6_7 ([.int .u64 0, v6_5]) _ rfl rfl _ hhb7 (by kernel_rfl) rfl (tb_ones _ HU6_5.out.one) ?_
  intro u6 hp7 hbl hot
  replace hS := hS.trans (hbl _ hgb7)
  replace HU6_5 := Lib.hid (HU6_5.out.hotb hhb7 ⟨_, _, _, rfl⟩ (by decide) (hbl 0 (Nat.zero_le _)).size hot)
  clear hbl hot hhb7
  try simp only [Act.put]
  refine tl_pure rfl (by kernel_rfl) (.int .i64 1) (ex_assign (.tmp 40) rfl rfl) ?_
  try simp only [Act.put, List.setIfInBounds_toArray, List.set_cons_zero, List.set_cons_succ]
  refine tl_nil ?_
  replace HU5_1 := Lib.hid (HU5_1.out.keep hS)
  replace HU5_3 := Lib.hid (HU5_3.out.keep hS)
  have HBW := Lib.hid HB.out.size
  replace HB := Lib.hid (HB.out.trans (hS.mono HB.out.size))
  clear hS
  have HGb6_7 : Hid (w.heap.size ≤ b6_7) := Lib.hid (Nat.le_trans HBW.out hgb7)
  have HX_b6_7 : Hid (Has u6 b6_7 28 ([.int .u64 0, v6_5])) := Lib.hid hp7
  clear hp7 hgb7
  clear HBW
  go_upto_region 7 with fail
  refine wp_act (fun a0 ha0 => ?_)
  have zsz : a0.tmps.size = 81 := by rw [ha0]; rfl
  have z12 : a0.eval (.tmp 12) = .int .i64 1 := by rw [ha0]; rfl
  refine wrO [] slotsRof7 waitRof7 [Fct.val Flz 0 (.int .i64 1), Fct.val Flz 1 (.bool true)] (fun w' => Below u6.heap.size u6 w') _ 2 0 chkRof7 (by kernel_rfl) (by kernel_rfl) (by kernel_rfl) (by decide) (Below.refl _ _) ?_ ?_
  ·refine lt_s (lt_s (lt_0) ?_) ?_
   ·intro f w1 hS hf aA hA
    have r12 := pO 12 hA (by kernel_rfl) z12
    exact fV rfl rfl _ (ex_move (.tmp 12) rfl r12) hS uS
   ·intro f w1 hS hf aA hA
    have r41 := pA 41 0 hA sbRof7 (by kernel_rfl) zsz rfl (hf 0 (by decide))
    exact fV rfl rfl _ (Eq.trans (ex_int .neq _ _ (.tmp 41) _ rfl .i64 1 0 r41 rfl (.bool ((1 : Int) != (0 : Int))) (fun _ => rfl)) (by rw [(by decide : ((1 : Int) != (0 : Int)) = true)])) hS uS
  intro f u7 hS hf hap
  have h0 : f 0 = .int .i64 1 := hf 0 (by decide)
  have h1 : f 1 = .bool true := hf 1 (by decide)
  clear hf hap
  clear zsz z12
  subst ha0
  simp only [slotsRof7, putAll, h0, h1, Act.put, List.setIfInBounds_toArray, List.set_cons_zero, List.set_cons_succ]
  clear h0 h1
  refine tl_nil ?_
  replace HU5_1 := Lib.hid (HU5_1.out.keep hS)
  replace HU5_3 := Lib.hid (HU5_3.out.keep hS)
  replace HX_b6_7 := Lib.hid (HX_b6_7.out.keepB hS)
  replace HU6_5 := Lib.hid (HU6_5.out.keep hS)
  replace HB := Lib.hid (HB.out.trans (hS.mono HB.out.size))
  clear hS
  go_wp2_with fail
  go_ret
  exact ⟨rfl, HB.out⟩
 ·obtain ⟨m, hm, hm3, hm4⟩ := good_int HGD.out
  have HM := Lib.hid hm
  have HM4 := Lib.hid hm4
  have HGM : Hid (goodN (m : Int) = true) := Lib.hid (by rw [← hm]; exact HGD.out)
  clear hm hm3 hm4
  go_upto_region 6 with fail
  refine wp_act (fun a0 ha0 => ?_)
  have zsz : a0.tmps.size = 81 := by rw [ha0]; rfl
  have z0 : a0.eval (.tmp 0) = .int .u64 (s : Int) := by rw [ha0]; rfl
  have z1 : a0.eval (.tmp 1) = .int .i64 n := by rw [ha0]; rfl
  have z9 : a0.eval (.tmp 9) = v5_1 := by rw [ha0]; rfl
  refine wrO [] slotsRof6 waitRof6 [Fct.val Flz 0 (.int .u64 (s : Int)), Fct.val Flz 1 (.int .i64 n), Fct.val Flz 2 (v5_1), Fct.obj 3 (fun v w => ∃ zz, v = .tuple #[.agg #[.int .u64 (s : Int), zz], .int .i64 0] ∧ Cs w zz (tabP s m (srt ((la).map fewS)))) (fun _ _ _ ⟨zz, a, b⟩ he => ⟨zz, a, b.flz he⟩), Fct.obj 4 (fun v w => ∃ zz, v = .tuple #[.agg #[.int .u64 (s : Int), zz], .int .i64 0] ∧ Cs w zz (tabP s m (srt ((la).map fewS)))) (fun _ _ _ ⟨zz, a, b⟩ he => ⟨zz, a, b.flz he⟩), Fct.obj 5 (fun v w => ∃ zz, v = .agg #[.int .u64 (s : Int), zz] ∧ Cs w zz (tabP s m (srt ((la).map fewS)))) (fun _ _ _ ⟨zz, a, b⟩ he => ⟨zz, a, b.flz he⟩), Fct.val Flz 6 (.int .i64 0), Fct.obj 7 (fun v w => ∃ g, v = .pointer (some ⟨g, 0, none⟩) ∧ u5.heap.size ≤ g ∧ Has w g 28 ([.int .u64 0, .slice none 0 0])) (fun _ _ _ ⟨g, a, b, c⟩ he => ⟨g, a, b, c.flz he (by decide)⟩)] (fun w' => Below u5.heap.size u5 w') _ 8 2 chkRof6 (by kernel_rfl) (by kernel_rfl) (by kernel_rfl) (by decide) (Below.refl _ _) ?_ ?_
  ·refine lt_s (lt_s (lt_s (lt_s (lt_s (lt_s (lt_s (lt_s (lt_0) ?_) ?_) ?_) ?_) ?_) ?_) ?_) ?_
   ·intro f w1 hS hf aA hA
    have r0 := pO 0 hA (by kernel_rfl) z0
    exact fV rfl rfl _ (ex_move (.tmp 0) rfl r0) hS uS
   ·intro f w1 hS hf aA hA
    have r1 := pO 1 hA (by kernel_rfl) z1
    exact fV rfl rfl _ (ex_move (.tmp 1) rfl r1) hS uS
   ·intro f w1 hS hf aA hA
    have r9 := pO 9 hA (by kernel_rfl) z9
    exact fV rfl rfl _ (ex_move (.tmp 9) rfl r9) hS uS
   ·intro f w1 hS hf aA hA
    have r35 := pA 35 0 hA sbRof6 (by kernel_rfl) zsz rfl (hf 0 (by decide))
    have r36 := pA 36 1 hA sbRof6 (by kernel_rfl) zsz rfl (hf 1 (by decide))
    have r37 := pA 37 2 hA sbRof6 (by kernel_rfl) zsz rfl (hf 2 (by decide))
    exact fC rfl rfl 11 #[(.tmp 35), (.tmp 36), (.tmp 37)] _ rfl #[.int .u64 (s : Int), .int .i64 n, v5_1] (mp3 r35 r36 r37) (fun w => by kernel_rfl) _ (ofA_t s n m _ (srt ((la).map fewS)) HGD.out HM.out (asc_few _) w1 HSD.out (HL.out.keep (HB.out.trans (hS.mono HB.out.size)) HSZ.out) (len_few _ 10000 (Nat.le_trans HLA.out (by decide))) (HU5_1.out.keep hS)) hS (fun _ _ ⟨zz, a, b⟩ => ⟨zz, uS.trans a, b⟩)
   ·intro f w1 hS hf aA hA
    obtain ⟨x38, hx38, hr38⟩ := hf 3 (by decide)
    have e38 := pA 38 3 hA sbRof6 (by kernel_rfl) zsz rfl hx38
    exact flw_val rfl rfl (.tuple #[.agg #[.int .u64 (s : Int), x38], .int .i64 0]) (ex_move (.tmp 38) rfl e38) hS (Flz.refl _) ⟨x38, uS, hr38⟩
   ·intro f w1 hS hf aA hA
    obtain ⟨x34, hx34, hr34⟩ := hf 4 (by decide)
    have e34 := pA 34 4 hA sbRof6 (by kernel_rfl) zsz rfl hx34
    exact flw_val rfl rfl (.agg #[.int .u64 (s : Int), x34]) (ex_extract (.tmp 34) 0 rfl e34 rfl) hS (Flz.refl _) ⟨x34, uS, hr34⟩
   ·intro f w1 hS hf aA hA
    obtain ⟨x34, hx34, hr34⟩ := hf 4 (by decide)
    have e34 := pA 34 4 hA sbRof6 (by kernel_rfl) zsz rfl hx34
    exact fV rfl rfl _ (ex_extract (.tmp 34) 1 rfl e34 rfl) hS uS
   ·intro f w1 hS hf aA hA
    exact flw_wp rfl rfl (fun K hK => wp_alloc_row 28 rfl (.agg #[.int .u64 0, .slice none 0 0]) (fun w => by kernel_rfl) (hK _ _ (hS.alloc hS.size _) (Flz.al _ _) ⟨_, uS, hS.size, Has.made' _ _ _ _ rfl⟩))
  intro f x6 hS hf hap
  have h0 : f 0 = .int .u64 (s : Int) := hf 0 (by decide)
  have h1 : f 1 = .int .i64 n := hf 1 (by decide)
  have h2 : f 2 = v5_1 := hf 2 (by decide)
  obtain ⟨v6_3, h3, -⟩ := hf 3 (by decide)
  obtain ⟨v6_4, h4, -⟩ := hf 4 (by decide)
  obtain ⟨v6_5, h5, hu5⟩ := hf 5 (by decide)
  have HU6_5 := Lib.hid hu5
  clear hu5
  have h6 : f 6 = .int .i64 0 := hf 6 (by decide)
  obtain ⟨b6_7, h7, hgb7, hhb7⟩ := hf 7 (by decide)
  clear hf hap
  clear zsz z0 z1 z9
  subst ha0
  simp only [slotsRof6, putAll, h0, h1, h2, h3, h4, h5, h6, h7, Act.put, List.setIfInBounds_toArray, List.set_cons_zero, List.set_cons_succ]
  clear h0 h1 h2 h3 h4 h5 h6 h7
  refine tl_store rfl (by kernel_rfl) 28 (.tmp 11) (.tmp 39) rfl b6_7 ([.int .u64 (s : Int), v6_5]) _ rfl rfl _ hhb7 (by kernel_rfl) rfl (tb_ones _ HU6_5.out.one) ?_
  intro u6 hp7 hbl hot
  replace hS := hS.trans (hbl _ hgb7)
  replace HU6_5 := Lib.hid (HU6_5.out.hotb hhb7 ⟨_, _, _, rfl⟩ (by decide) (hbl 0 (Nat.zero_le _)).size hot)
  clear hbl hot hhb7
  try simp only [Act.put]
  refine tl_pure rfl (by kernel_rfl) (.int .i64 0) (ex_assign (.tmp 40) rfl rfl) ?_
  try simp only [Act.put, List.setIfInBounds_toArray, List.set_cons_zero, List.set_cons_succ]
  refine tl_nil ?_
  replace HU5_1 := Lib.hid (HU5_1.out.keep hS)
  replace HU5_3 := Lib.hid (HU5_3.out.keep hS)
  have HBW := Lib.hid HB.out.size
  replace HB := Lib.hid (HB.out.trans (hS.mono HB.out.size))
  clear hS
  have HGb6_7 : Hid (w.heap.size ≤ b6_7) := Lib.hid (Nat.le_trans HBW.out hgb7)
  have HX_b6_7 : Hid (Has u6 b6_7 28 ([.int .u64 (s : Int), v6_5])) := Lib.hid hp7
  clear hp7 hgb7
  clear HBW
  go_upto_region 7 with fail
  refine wp_act (fun a0 ha0 => ?_)
  have zsz : a0.tmps.size = 81 := by rw [ha0]; rfl
  have z12 : a0.eval (.tmp 12) = .int .i64 0 := by rw [ha0]; rfl
  refine wrO [] slotsRof7 waitRof7 [Fct.val Flz 0 (.int .i64 0), Fct.val Flz 1 (.bool false)] (fun w' => Below u6.heap.size u6 w') _ 2 0 chkRof7 (by kernel_rfl) (by kernel_rfl) (by kernel_rfl) (by decide) (Below.refl _ _) ?_ ?_
  ·refine lt_s (lt_s (lt_0) ?_) ?_
   ·intro f w1 hS hf aA hA
    have r12 := pO 12 hA (by kernel_rfl) z12
    exact fV rfl rfl _ (ex_move (.tmp 12) rfl r12) hS uS
   ·intro f w1 hS hf aA hA
    have r41 := pA 41 0 hA sbRof7 (by kernel_rfl) zsz rfl (hf 0 (by decide))
    exact fV rfl rfl _ (Eq.trans (ex_int .neq _ _ (.tmp 41) _ rfl .i64 0 0 r41 rfl (.bool ((0 : Int) != (0 : Int))) (fun _ => rfl)) (by rw [(by decide : ((0 : Int) != (0 : Int)) = false)])) hS uS
  intro f u7 hS hf hap
  have h0 : f 0 = .int .i64 0 := hf 0 (by decide)
  have h1 : f 1 = .bool false := hf 1 (by decide)
  clear hf hap
  clear zsz z12
  subst ha0
  simp only [slotsRof7, putAll, h0, h1, Act.put, List.setIfInBounds_toArray, List.set_cons_zero, List.set_cons_succ]
  clear h0 h1
  refine tl_nil ?_
  replace HU5_1 := Lib.hid (HU5_1.out.keep hS)
  replace HU5_3 := Lib.hid (HU5_3.out.keep hS)
  replace HX_b6_7 := Lib.hid (HX_b6_7.out.keepB hS)
  replace HU6_5 := Lib.hid (HU6_5.out.keep hS)
  replace HB := Lib.hid (HB.out.trans (hS.mono HB.out.size))
  clear hS
  obtain ⟨q, hq⟩ : ∃ q, ownQ s (tabP s m (srt ((la).map fewS))) (srt ((lb).map fewS)) = q := ⟨_, rfl⟩
  have HQQ := Lib.hid hq
  obtain ⟨ok, hok⟩ : ∃ ok, ownB (srt ((lb).map fewS)) q = ok := ⟨_, rfl⟩
  have HOK := Lib.hid hok
  clear hok hq
  cases ok
  ·go_upto_region 9 with fail
   refine wp_act (fun a0 ha0 => ?_)
   have zsz : a0.tmps.size = 81 := by rw [ha0]; rfl
   have z11 : a0.eval (.tmp 11) = .pointer (some ⟨b6_7, 0, none⟩) := by rw [ha0]; rfl
   have z10 : a0.eval (.tmp 10) = v5_3 := by rw [ha0]; rfl
   refine wrO [] slotsRotf9 waitRotf9 [Fct.val Flz 0 (.agg #[.int .u64 (s : Int), v6_5]), Fct.val Flz 1 (v5_3), Fct.obj 2 (fun v w => ∃ zz, v = .tuple #[(fl zz 0), (fl zz 1), .int .i64 10] ∧ OwnR (([] : List Su)) (([] : List Su)) w zz) (fun _ _ _ ⟨zz, a, b⟩ he => ⟨zz, a, b.flz he⟩), Fct.obj 3 (fun v w => ∃ zz, v = .tuple #[(fl zz 0), (fl zz 1), .int .i64 10] ∧ OwnR (([] : List Su)) (([] : List Su)) w zz) (fun _ _ _ ⟨zz, a, b⟩ he => ⟨zz, a, b.flz he⟩), Fct.obj 4 (fun v w => ∃ zz, v = (fl zz 0) ∧ OwnR (([] : List Su)) (([] : List Su)) w zz) (fun _ _ _ ⟨zz, a, b⟩ he => ⟨zz, a, b.flz he⟩), Fct.obj 5 (fun v w => ∃ zz, v = (fl zz 1) ∧ OwnR (([] : List Su)) (([] : List Su)) w zz) (fun _ _ _ ⟨zz, a, b⟩ he => ⟨zz, a, b.flz he⟩), Fct.val Flz 6 (.int .i64 10), Fct.obj 7 (fun v w => ∃ zz, v = (fl zz 0) ∧ OwnR (([] : List Su)) (([] : List Su)) w zz) (fun _ _ _ ⟨zz, a, b⟩ he => ⟨zz, a, b.flz he⟩), Fct.obj 8 (fun v w => ∃ zz, v = (fl zz 1) ∧ OwnR (([] : List Su)) (([] : List Su)) w zz) (fun _ _ _ ⟨zz, a, b⟩ he => ⟨zz, a, b.flz he⟩), Fct.val Flz 9 (.int .i64 10)] (fun w' => Below u7.heap.size u7 w') _ 10 0 chkRotf9 (by kernel_rfl) (by kernel_rfl) (by kernel_rfl) (by decide) (Below.refl _ _) ?_ ?_
   ·refine lt_s (lt_s (lt_s (lt_s (lt_s (lt_s (lt_s (lt_s (lt_s (lt_s (lt_0) ?_) ?_) ?_) ?_) ?_) ?_) ?_) ?_) ?_) ?_
    ·intro f w1 hS hf aA hA
     have r11 := pO 11 hA (by kernel_rfl) z11
     exact fV rfl rfl _ (ex_loadR 28 (.tmp 11) rfl ⟨b6_7, 0, none⟩ r11 (fun _ => by kernel_rfl) [.int .u64 (s : Int), v6_5] (by kernel_rfl) ((HX_b6_7.out.keepB hS).part [.int .u64 (s : Int), v6_5] 0 (fun j u hu => by rw [Nat.zero_add]; exact hu))) hS uS
    ·intro f w1 hS hf aA hA
     have r10 := pO 10 hA (by kernel_rfl) z10
     exact fV rfl rfl _ (ex_move (.tmp 10) rfl r10) hS uS
    ·intro f w1 hS hf aA hA
     have r46 := pA 46 0 hA sbRotf9 (by kernel_rfl) zsz rfl (hf 0 (by decide))
     have r47 := pA 47 1 hA sbRotf9 (by kernel_rfl) zsz rfl (hf 1 (by decide))
     exact fC rfl rfl 13 #[(.tmp 46), (.tmp 47)] _ rfl #[.agg #[.int .u64 (s : Int), v6_5], v5_3] (mp2 r46 r47) (fun w => by kernel_rfl) _ (ownR_f s _ (tabP s m (srt ((la).map fewS))) _ (srt ((lb).map fewS)) (by rw [HQQ.out]; exact HOK.out) w1 HSD.out (HL.out.keep (HB.out.trans (hS.mono HB.out.size)) HSZ.out) (tabP_small 1000000 (Nat.le_trans HM4.out (by decide))) (len_few _ 1000 (Nat.le_trans HLB.out (by decide))) (HU6_5.out.keep hS) (HU5_3.out.keep hS) (tabP_good HGM.out) (good_few _ (Nat.le_trans HLB.out (by decide)))) hS (fun _ _ ⟨zz, a, b⟩ => ⟨zz, uS.trans a, b⟩)
    ·intro f w1 hS hf aA hA
     obtain ⟨x48, hx48, hr48⟩ := hf 2 (by decide)
     have e48 := pA 48 2 hA sbRotf9 (by kernel_rfl) zsz rfl hx48
     exact flw_val rfl rfl (.tuple #[(fl x48 0), (fl x48 1), .int .i64 10]) (ex_move (.tmp 48) rfl e48) hS (Flz.refl _) ⟨x48, uS, hr48⟩
    ·intro f w1 hS hf aA hA
     obtain ⟨x45, hx45, hr45⟩ := hf 3 (by decide)
     have e45 := pA 45 3 hA sbRotf9 (by kernel_rfl) zsz rfl hx45
     exact flw_val rfl rfl ((fl x45 0)) (ex_extract (.tmp 45) 0 rfl e45 rfl) hS (Flz.refl _) ⟨x45, uS, hr45⟩
    ·intro f w1 hS hf aA hA
     obtain ⟨x45, hx45, hr45⟩ := hf 3 (by decide)
     have e45 := pA 45 3 hA sbRotf9 (by kernel_rfl) zsz rfl hx45
     exact flw_val rfl rfl ((fl x45 1)) (ex_extract (.tmp 45) 1 rfl e45 rfl) hS (Flz.refl _) ⟨x45, uS, hr45⟩
    ·intro f w1 hS hf aA hA
     obtain ⟨x45, hx45, hr45⟩ := hf 3 (by decide)
     have e45 := pA 45 3 hA sbRotf9 (by kernel_rfl) zsz rfl hx45
     exact fV rfl rfl _ (ex_extract (.tmp 45) 2 rfl e45 rfl) hS uS
    ·intro f w1 hS hf aA hA
     obtain ⟨x49, hx49, hr49⟩ := hf 4 (by decide)
     have e49 := pA 49 4 hA sbRotf9 (by kernel_rfl) zsz rfl hx49
     exact flw_val rfl rfl ((fl x49 0)) (ex_assign (.tmp 49) rfl e49) hS (Flz.refl _) ⟨x49, uS, hr49⟩
    ·intro f w1 hS hf aA hA
     obtain ⟨x50, hx50, hr50⟩ := hf 5 (by decide)
     have e50 := pA 50 5 hA sbRotf9 (by kernel_rfl) zsz rfl hx50
     exact flw_val rfl rfl ((fl x50 1)) (ex_assign (.tmp 50) rfl e50) hS (Flz.refl _) ⟨x50, uS, hr50⟩
    ·intro f w1 hS hf aA hA
     have r51 := pA 51 6 hA sbRotf9 (by kernel_rfl) zsz rfl (hf 6 (by decide))
     exact fV rfl rfl _ (ex_assign (.tmp 51) rfl r51) hS uS
   intro f u9 hS hf hap
   have h0 : f 0 = .agg #[.int .u64 (s : Int), v6_5] := hf 0 (by decide)
   have h1 : f 1 = v5_3 := hf 1 (by decide)
   obtain ⟨v9_2, h2, -⟩ := hf 2 (by decide)
   obtain ⟨v9_3, h3, -⟩ := hf 3 (by decide)
   obtain ⟨v9_4, h4, -⟩ := hf 4 (by decide)
   obtain ⟨v9_5, h5, -⟩ := hf 5 (by decide)
   have h6 : f 6 = .int .i64 10 := hf 6 (by decide)
   obtain ⟨v9_7, h7, hu7⟩ := hf 7 (by decide)
   have HU9_7 := Lib.hid hu7
   clear hu7
   obtain ⟨v9_8, h8, hu8⟩ := hf 8 (by decide)
   have HU9_8 := Lib.hid hu8
   clear hu8
   have h9 : f 9 = .int .i64 10 := hf 9 (by decide)
   clear hf hap
   clear zsz z11 z10
   subst ha0
   simp only [slotsRotf9, putAll, h0, h1, h2, h3, h4, h5, h6, h7, h8, h9, Act.put, List.setIfInBounds_toArray, List.set_cons_zero, List.set_cons_succ]
   clear h0 h1 h2 h3 h4 h5 h6 h7 h8 h9
   refine tl_nil ?_
   replace HU5_1 := Lib.hid (HU5_1.out.keep hS)
   replace HU5_3 := Lib.hid (HU5_3.out.keep hS)
   replace HX_b6_7 := Lib.hid (HX_b6_7.out.keepB hS)
   replace HU6_5 := Lib.hid (HU6_5.out.keep hS)
   replace HB := Lib.hid (HB.out.trans (hS.mono HB.out.size))
   clear hS
   go_upto_region 10 with fail
   refine wp_act (fun a0 ha0 => ?_)
   have zsz : a0.tmps.size = 81 := by rw [ha0]; rfl
   have z15 : a0.eval (.tmp 15) = .int .i64 10 := by rw [ha0]; rfl
   refine wrO [] slotsRotf10 waitRotf10 [Fct.val Flz 0 (.int .i64 10), Fct.val Flz 1 (.bool true)] (fun w' => Below u9.heap.size u9 w') _ 2 0 chkRotf10 (by kernel_rfl) (by kernel_rfl) (by kernel_rfl) (by decide) (Below.refl _ _) ?_ ?_
   ·refine lt_s (lt_s (lt_0) ?_) ?_
    ·intro f w1 hS hf aA hA
     have r15 := pO 15 hA (by kernel_rfl) z15
     exact fV rfl rfl _ (ex_move (.tmp 15) rfl r15) hS uS
    ·intro f w1 hS hf aA hA
     have r52 := pA 52 0 hA sbRotf10 (by kernel_rfl) zsz rfl (hf 0 (by decide))
     exact fV rfl rfl _ (Eq.trans (ex_int .neq _ _ (.tmp 52) _ rfl .i64 10 0 r52 rfl (.bool ((10 : Int) != (0 : Int))) (fun _ => rfl)) (by rw [(by decide : ((10 : Int) != (0 : Int)) = true)])) hS uS
   intro f u10 hS hf hap
   have h0 : f 0 = .int .i64 10 := hf 0 (by decide)
   have h1 : f 1 = .bool true := hf 1 (by decide)
   clear hf hap
   clear zsz z15
   subst ha0
   simp only [slotsRotf10, putAll, h0, h1, Act.put, List.setIfInBounds_toArray, List.set_cons_zero, List.set_cons_succ]
   clear h0 h1
   refine tl_nil ?_
   replace HU5_1 := Lib.hid (HU5_1.out.keep hS)
   replace HU5_3 := Lib.hid (HU5_3.out.keep hS)
   replace HX_b6_7 := Lib.hid (HX_b6_7.out.keepB hS)
   replace HU6_5 := Lib.hid (HU6_5.out.keep hS)
   replace HU9_7 := Lib.hid (HU9_7.out.keep hS)
   replace HU9_8 := Lib.hid (HU9_8.out.keep hS)
   replace HB := Lib.hid (HB.out.trans (hS.mono HB.out.size))
   clear hS
   go_wp2_with fail
   go_ret
   exact ⟨rfl, HB.out⟩
  ·have HPA : Hid ((srt q.2.1).length ≤ 10000) := Lib.hid (by rw [← HQQ.out]; exact Nat.le_trans (len_srt_le _) (Nat.le_trans plus_le (by decide)))
   have HPB : Hid ((srt q.2.2).length ≤ 10000) := Lib.hid (by rw [← HQQ.out]; exact Nat.le_trans (len_srt_le _) (Nat.le_trans minus_le (by decide)))
   obtain ⟨hk0, hk1, hk2⟩ := ownB_parts HOK.out
   have HB1 : Hid ((((botU (srt q.2.1) (srt ((lb).map fewS))).length : Nat) : Int) = 0) := Lib.hid (by rw [hk2]; rfl)
   have HB2 : Hid ((((minU (srt q.2.2) (srt ((lb).map fewS))).length : Nat) : Int) = 0) := Lib.hid (by rw [hk1]; rfl)
   have HCN : Hid (((srt ((la).map fewS)).length : Int) - ((srt ((lb).map fewS)).length : Int) = ((srt q.2.1).length : Int) - ((srt q.2.2).length : Int)) := Lib.hid (by
    have h9 := own_count (s := s) (m := m) (A := srt ((la).map fewS)) (B := srt ((lb).map fewS)) HGM.out (len_few _ 1000 (Nat.le_trans HLA.out (by decide))) (len_few _ 1000 (Nat.le_trans HLB.out (by decide))) (by rw [HQQ.out]; exact hk0)
    rw [HQQ.out] at h9; exact h9)
   clear hk0 hk1 hk2
   go_upto_region 9 with fail
   refine wp_act (fun a0 ha0 => ?_)
   have zsz : a0.tmps.size = 81 := by rw [ha0]; rfl
   have z11 : a0.eval (.tmp 11) = .pointer (some ⟨b6_7, 0, none⟩) := by rw [ha0]; rfl
   have z10 : a0.eval (.tmp 10) = v5_3 := by rw [ha0]; rfl
   refine wrO [] slotsRotf9 waitRotf9 [Fct.val Flz 0 (.agg #[.int .u64 (s : Int), v6_5]), Fct.val Flz 1 (v5_3), Fct.obj 2 (fun v w => ∃ zz, v = .tuple #[(fl zz 0), (fl zz 1), .int .i64 0] ∧ OwnR (srt q.2.1) (srt q.2.2) w zz) (fun _ _ _ ⟨zz, a, b⟩ he => ⟨zz, a, b.flz he⟩), Fct.obj 3 (fun v w => ∃ zz, v = .tuple #[(fl zz 0), (fl zz 1), .int .i64 0] ∧ OwnR (srt q.2.1) (srt q.2.2) w zz) (fun _ _ _ ⟨zz, a, b⟩ he => ⟨zz, a, b.flz he⟩), Fct.obj 4 (fun v w => ∃ zz, v = (fl zz 0) ∧ OwnR (srt q.2.1) (srt q.2.2) w zz) (fun _ _ _ ⟨zz, a, b⟩ he => ⟨zz, a, b.flz he⟩), Fct.obj 5 (fun v w => ∃ zz, v = (fl zz 1) ∧ OwnR (srt q.2.1) (srt q.2.2) w zz) (fun _ _ _ ⟨zz, a, b⟩ he => ⟨zz, a, b.flz he⟩), Fct.val Flz 6 (.int .i64 0), Fct.obj 7 (fun v w => ∃ zz, v = (fl zz 0) ∧ OwnR (srt q.2.1) (srt q.2.2) w zz) (fun _ _ _ ⟨zz, a, b⟩ he => ⟨zz, a, b.flz he⟩), Fct.obj 8 (fun v w => ∃ zz, v = (fl zz 1) ∧ OwnR (srt q.2.1) (srt q.2.2) w zz) (fun _ _ _ ⟨zz, a, b⟩ he => ⟨zz, a, b.flz he⟩), Fct.val Flz 9 (.int .i64 0)] (fun w' => Below u7.heap.size u7 w') _ 10 0 chkRotf9 (by kernel_rfl) (by kernel_rfl) (by kernel_rfl) (by decide) (Below.refl _ _) ?_ ?_
   ·refine lt_s (lt_s (lt_s (lt_s (lt_s (lt_s (lt_s (lt_s (lt_s (lt_s (lt_0) ?_) ?_) ?_) ?_) ?_) ?_) ?_) ?_) ?_) ?_
    ·intro f w1 hS hf aA hA
     have r11 := pO 11 hA (by kernel_rfl) z11
     exact fV rfl rfl _ (ex_loadR 28 (.tmp 11) rfl ⟨b6_7, 0, none⟩ r11 (fun _ => by kernel_rfl) [.int .u64 (s : Int), v6_5] (by kernel_rfl) ((HX_b6_7.out.keepB hS).part [.int .u64 (s : Int), v6_5] 0 (fun j u hu => by rw [Nat.zero_add]; exact hu))) hS uS
    ·intro f w1 hS hf aA hA
     have r10 := pO 10 hA (by kernel_rfl) z10
     exact fV rfl rfl _ (ex_move (.tmp 10) rfl r10) hS uS
    ·intro f w1 hS hf aA hA
     have r46 := pA 46 0 hA sbRotf9 (by kernel_rfl) zsz rfl (hf 0 (by decide))
     have r47 := pA 47 1 hA sbRotf9 (by kernel_rfl) zsz rfl (hf 1 (by decide))
     exact fC rfl rfl 13 #[(.tmp 46), (.tmp 47)] _ rfl #[.agg #[.int .u64 (s : Int), v6_5], v5_3] (mp2 r46 r47) (fun w => by kernel_rfl) _ (ownR_t (srt q.2.1) (srt q.2.2) s _ (tabP s m (srt ((la).map fewS))) _ (srt ((lb).map fewS)) q HQQ.out HOK.out rfl rfl w1 HSD.out (HL.out.keep (HB.out.trans (hS.mono HB.out.size)) HSZ.out) (tabP_small 1000000 (Nat.le_trans HM4.out (by decide))) (len_few _ 1000 (Nat.le_trans HLB.out (by decide))) (HU6_5.out.keep hS) (HU5_3.out.keep hS) (tabP_good HGM.out) (good_few _ (Nat.le_trans HLB.out (by decide)))) hS (fun _ _ ⟨zz, a, b⟩ => ⟨zz, uS.trans a, b⟩)
    ·intro f w1 hS hf aA hA
     obtain ⟨x48, hx48, hr48⟩ := hf 2 (by decide)
     have e48 := pA 48 2 hA sbRotf9 (by kernel_rfl) zsz rfl hx48
     exact flw_val rfl rfl (.tuple #[(fl x48 0), (fl x48 1), .int .i64 0]) (ex_move (.tmp 48) rfl e48) hS (Flz.refl _) ⟨x48, uS, hr48⟩
    ·intro f w1 hS hf aA hA
     obtain ⟨x45, hx45, hr45⟩ := hf 3 (by decide)
     have e45 := pA 45 3 hA sbRotf9 (by kernel_rfl) zsz rfl hx45
     exact flw_val rfl rfl ((fl x45 0)) (ex_extract (.tmp 45) 0 rfl e45 rfl) hS (Flz.refl _) ⟨x45, uS, hr45⟩
    ·intro f w1 hS hf aA hA
     obtain ⟨x45, hx45, hr45⟩ := hf 3 (by decide)
     have e45 := pA 45 3 hA sbRotf9 (by kernel_rfl) zsz rfl hx45
     exact flw_val rfl rfl ((fl x45 1)) (ex_extract (.tmp 45) 1 rfl e45 rfl) hS (Flz.refl _) ⟨x45, uS, hr45⟩
    ·intro f w1 hS hf aA hA
     obtain ⟨x45, hx45, hr45⟩ := hf 3 (by decide)
     have e45 := pA 45 3 hA sbRotf9 (by kernel_rfl) zsz rfl hx45
     exact fV rfl rfl _ (ex_extract (.tmp 45) 2 rfl e45 rfl) hS uS
    ·intro f w1 hS hf aA hA
     obtain ⟨x49, hx49, hr49⟩ := hf 4 (by decide)
     have e49 := pA 49 4 hA sbRotf9 (by kernel_rfl) zsz rfl hx49
     exact flw_val rfl rfl ((fl x49 0)) (ex_assign (.tmp 49) rfl e49) hS (Flz.refl _) ⟨x49, uS, hr49⟩
    ·intro f w1 hS hf aA hA
     obtain ⟨x50, hx50, hr50⟩ := hf 5 (by decide)
     have e50 := pA 50 5 hA sbRotf9 (by kernel_rfl) zsz rfl hx50
     exact flw_val rfl rfl ((fl x50 1)) (ex_assign (.tmp 50) rfl e50) hS (Flz.refl _) ⟨x50, uS, hr50⟩
    ·intro f w1 hS hf aA hA
     have r51 := pA 51 6 hA sbRotf9 (by kernel_rfl) zsz rfl (hf 6 (by decide))
     exact fV rfl rfl _ (ex_assign (.tmp 51) rfl r51) hS uS
   intro f u9 hS hf hap
   have h0 : f 0 = .agg #[.int .u64 (s : Int), v6_5] := hf 0 (by decide)
   have h1 : f 1 = v5_3 := hf 1 (by decide)
   obtain ⟨v9_2, h2, -⟩ := hf 2 (by decide)
   obtain ⟨v9_3, h3, -⟩ := hf 3 (by decide)
   obtain ⟨v9_4, h4, -⟩ := hf 4 (by decide)
   obtain ⟨v9_5, h5, -⟩ := hf 5 (by decide)
   have h6 : f 6 = .int .i64 0 := hf 6 (by decide)
   obtain ⟨v9_7, h7, hu7⟩ := hf 7 (by decide)
   have HU9_7 := Lib.hid hu7
   clear hu7
   obtain ⟨v9_8, h8, hu8⟩ := hf 8 (by decide)
   have HU9_8 := Lib.hid hu8
   clear hu8
   have h9 : f 9 = .int .i64 0 := hf 9 (by decide)
   clear hf hap
   clear zsz z11 z10
   subst ha0
   simp only [slotsRotf9, putAll, h0, h1, h2, h3, h4, h5, h6, h7, h8, h9, Act.put, List.setIfInBounds_toArray, List.set_cons_zero, List.set_cons_succ]
   clear h0 h1 h2 h3 h4 h5 h6 h7 h8 h9
   refine tl_nil ?_
   replace HU5_1 := Lib.hid (HU5_1.out.keep hS)
   replace HU5_3 := Lib.hid (HU5_3.out.keep hS)
   replace HX_b6_7 := Lib.hid (HX_b6_7.out.keepB hS)
   replace HU6_5 := Lib.hid (HU6_5.out.keep hS)
   replace HB := Lib.hid (HB.out.trans (hS.mono HB.out.size))
   clear hS
   go_upto_region 10 with fail
   refine wp_act (fun a0 ha0 => ?_)
   have zsz : a0.tmps.size = 81 := by rw [ha0]; rfl
   have z15 : a0.eval (.tmp 15) = .int .i64 0 := by rw [ha0]; rfl
   refine wrO [] slotsRotf10 waitRotf10 [Fct.val Flz 0 (.int .i64 0), Fct.val Flz 1 (.bool false)] (fun w' => Below u9.heap.size u9 w') _ 2 0 chkRotf10 (by kernel_rfl) (by kernel_rfl) (by kernel_rfl) (by decide) (Below.refl _ _) ?_ ?_
   ·refine lt_s (lt_s (lt_0) ?_) ?_
    ·intro f w1 hS hf aA hA
     have r15 := pO 15 hA (by kernel_rfl) z15
     exact fV rfl rfl _ (ex_move (.tmp 15) rfl r15) hS uS
    ·intro f w1 hS hf aA hA
     have r52 := pA 52 0 hA sbRotf10 (by kernel_rfl) zsz rfl (hf 0 (by decide))
     exact fV rfl rfl _ (Eq.trans (ex_int .neq _ _ (.tmp 52) _ rfl .i64 0 0 r52 rfl (.bool ((0 : Int) != (0 : Int))) (fun _ => rfl)) (by rw [(by decide : ((0 : Int) != (0 : Int)) = false)])) hS uS
   intro f u10 hS hf hap
   have h0 : f 0 = .int .i64 0 := hf 0 (by decide)
   have h1 : f 1 = .bool false := hf 1 (by decide)
   clear hf hap
   clear zsz z15
   subst ha0
   simp only [slotsRotf10, putAll, h0, h1, Act.put, List.setIfInBounds_toArray, List.set_cons_zero, List.set_cons_succ]
   clear h0 h1
   refine tl_nil ?_
   replace HU5_1 := Lib.hid (HU5_1.out.keep hS)
   replace HU5_3 := Lib.hid (HU5_3.out.keep hS)
   replace HX_b6_7 := Lib.hid (HX_b6_7.out.keepB hS)
   replace HU6_5 := Lib.hid (HU6_5.out.keep hS)
   replace HU9_7 := Lib.hid (HU9_7.out.keep hS)
   replace HU9_8 := Lib.hid (HU9_8.out.keep hS)
   replace HB := Lib.hid (HB.out.trans (hS.mono HB.out.size))
   clear hS
   go_upto_region 12 with fail
   refine wp_act (fun a0 ha0 => ?_)
   have zsz : a0.tmps.size = 81 := by rw [ha0]; rfl
   have z9 : a0.eval (.tmp 9) = v5_1 := by rw [ha0]; rfl
   have z10 : a0.eval (.tmp 10) = v5_3 := by rw [ha0]; rfl
   have z13 : a0.eval (.tmp 13) = (fl v9_7 0) := by rw [ha0]; rfl
   have z14 : a0.eval (.tmp 14) = (fl v9_8 1) := by rw [ha0]; rfl
   refine wrO [] slotsRott12 waitRott12 [Fct.val Flz 0 (v5_1), Fct.val Flz 1 (.int .i64 (((srt ((la).map fewS)).length : Int))), Fct.val Flz 2 (v5_3), Fct.val Flz 3 (.int .i64 (((srt ((lb).map fewS)).length : Int))), Fct.val Flz 4 (.int .i64 (IntKind.i64.wrap ((((srt ((la).map fewS)).length : Int)) - (((srt ((lb).map fewS)).length : Int))))), Fct.val Flz 5 ((fl v9_7 0)), Fct.val Flz 6 (.int .i64 (((srt q.2.1).length : Int))), Fct.val Flz 7 ((fl v9_8 1)), Fct.val Flz 8 (.int .i64 (((srt q.2.2).length : Int))), Fct.val Flz 9 (.int .i64 (IntKind.i64.wrap ((((srt q.2.1).length : Int)) - (((srt q.2.2).length : Int))))), Fct.val Flz 10 (.bool true), Fct.val Flz 11 (.bool true), Fct.val Flz 12 ((fl v9_7 0)), Fct.val Flz 13 (v5_3), Fct.obj 14 (fun v w => Us w v (botU (srt q.2.1) (srt ((lb).map fewS)))) (fun _ _ _ h he => h.flz he), Fct.val Flz 15 (.int .i64 0), Fct.val Flz 16 (.bool true), Fct.val Flz 17 (.bool true), Fct.val Flz 18 (.bool true), Fct.val Flz 19 ((fl v9_8 1)), Fct.val Flz 20 (v5_3), Fct.obj 21 (fun v w => Us w v (minU (srt q.2.2) (srt ((lb).map fewS)))) (fun _ _ _ h he => h.flz he), Fct.val Flz 22 (.int .i64 0), Fct.val Flz 23 (.bool true), Fct.val Flz 24 (.bool true)] (fun w' => Below u10.heap.size u10 w') _ 25 1 chkRott12 (by kernel_rfl) (by kernel_rfl) (by kernel_rfl) (by decide) (Below.refl _ _) ?_ ?_
   ·refine lt_s (lt_s (lt_s (lt_s (lt_s (lt_s (lt_s (lt_s (lt_s (lt_s (lt_s (lt_s (lt_s (lt_s (lt_s (lt_s (lt_s (lt_s (lt_s (lt_s (lt_s (lt_s (lt_s (lt_s (lt_s (lt_0) ?_) ?_) ?_) ?_) ?_) ?_) ?_) ?_) ?_) ?_) ?_) ?_) ?_) ?_) ?_) ?_) ?_) ?_) ?_) ?_) ?_) ?_) ?_) ?_) ?_
    ·intro f w1 hS hf aA hA
     have r9 := pO 9 hA (by kernel_rfl) z9
     exact fV rfl rfl _ (ex_move (.tmp 9) rfl r9) hS uS
    ·intro f w1 hS hf aA hA
     have r56 := pA 56 0 hA sbRott12 (by kernel_rfl) zsz rfl (hf 0 (by decide))
     obtain ⟨q9, c9, hv9, _⟩ := (HU5_1.out.keep hS)
     exact fV rfl rfl _ (ex_len 24 42 (.tmp 56) rfl (by kernel_rfl) q9 (srt ((la).map fewS)).length c9 (r56.trans hv9)) hS uS
    ·intro f w1 hS hf aA hA
     have r10 := pO 10 hA (by kernel_rfl) z10
     exact fV rfl rfl _ (ex_move (.tmp 10) rfl r10) hS uS
    ·intro f w1 hS hf aA hA
     have r58 := pA 58 2 hA sbRott12 (by kernel_rfl) zsz rfl (hf 2 (by decide))
     obtain ⟨q9, c9, hv9, _⟩ := (HU5_3.out.keep hS)
     exact fV rfl rfl _ (ex_len 24 42 (.tmp 58) rfl (by kernel_rfl) q9 (srt ((lb).map fewS)).length c9 (r58.trans hv9)) hS uS
    ·intro f w1 hS hf aA hA
     have r57 := pA 57 1 hA sbRott12 (by kernel_rfl) zsz rfl (hf 1 (by decide))
     have r59 := pA 59 3 hA sbRott12 (by kernel_rfl) zsz rfl (hf 3 (by decide))
     exact fV rfl rfl _ (ex_int .sub _ _ (.tmp 57) (.tmp 59) rfl .i64 (((srt ((la).map fewS)).length : Int)) (((srt ((lb).map fewS)).length : Int)) r57 r59 (.int .i64 (IntKind.i64.wrap ((((srt ((la).map fewS)).length : Int)) - (((srt ((lb).map fewS)).length : Int))))) (fun _ => rfl)) hS uS
    ·intro f w1 hS hf aA hA
     have r13 := pO 13 hA (by kernel_rfl) z13
     exact fV rfl rfl _ (ex_move (.tmp 13) rfl r13) hS uS
    ·intro f w1 hS hf aA hA
     have r61 := pA 61 5 hA sbRott12 (by kernel_rfl) zsz rfl (hf 5 (by decide))
     obtain ⟨q9, c9, hv9, _⟩ := (HU9_7.out.p.keep hS)
     exact fV rfl rfl _ (ex_len 24 42 (.tmp 61) rfl (by kernel_rfl) q9 (srt q.2.1).length c9 (r61.trans hv9)) hS uS
    ·intro f w1 hS hf aA hA
     have r14 := pO 14 hA (by kernel_rfl) z14
     exact fV rfl rfl _ (ex_move (.tmp 14) rfl r14) hS uS
    ·intro f w1 hS hf aA hA
     have r63 := pA 63 7 hA sbRott12 (by kernel_rfl) zsz rfl (hf 7 (by decide))
     obtain ⟨q9, c9, hv9, _⟩ := (HU9_8.out.m.keep hS)
     exact fV rfl rfl _ (ex_len 24 42 (.tmp 63) rfl (by kernel_rfl) q9 (srt q.2.2).length c9 (r63.trans hv9)) hS uS
    ·intro f w1 hS hf aA hA
     have r62 := pA 62 6 hA sbRott12 (by kernel_rfl) zsz rfl (hf 6 (by decide))
     have r64 := pA 64 8 hA sbRott12 (by kernel_rfl) zsz rfl (hf 8 (by decide))
     exact fV rfl rfl _ (ex_int .sub _ _ (.tmp 62) (.tmp 64) rfl .i64 (((srt q.2.1).length : Int)) (((srt q.2.2).length : Int)) r62 r64 (.int .i64 (IntKind.i64.wrap ((((srt q.2.1).length : Int)) - (((srt q.2.2).length : Int))))) (fun _ => rfl)) hS uS
    ·intro f w1 hS hf aA hA
     have r60 := pA 60 4 hA sbRott12 (by kernel_rfl) zsz rfl (hf 4 (by decide))
     have r65 := pA 65 9 hA sbRott12 (by kernel_rfl) zsz rfl (hf 9 (by decide))
     exact fV rfl rfl _ (Eq.trans (ex_int .eql _ _ (.tmp 60) (.tmp 65) rfl .i64 (IntKind.i64.wrap ((((srt ((la).map fewS)).length : Int)) - (((srt ((lb).map fewS)).length : Int)))) (IntKind.i64.wrap ((((srt q.2.1).length : Int)) - (((srt q.2.2).length : Int)))) r60 r65 (.bool ((IntKind.i64.wrap ((((srt ((la).map fewS)).length : Int)) - (((srt ((lb).map fewS)).length : Int)))) == (IntKind.i64.wrap ((((srt q.2.1).length : Int)) - (((srt q.2.2).length : Int)))))) (fun _ => rfl)) (by rw [(beq_iff_eq.2 (congrArg IntKind.i64.wrap HCN.out) : ((IntKind.i64.wrap ((((srt ((la).map fewS)).length : Int)) - (((srt ((lb).map fewS)).length : Int)))) == (IntKind.i64.wrap ((((srt q.2.1).length : Int)) - (((srt q.2.2).length : Int))))) = true)])) hS uS
    ·intro f w1 hS hf aA hA
     have r66 := pA 66 10 hA sbRott12 (by kernel_rfl) zsz rfl (hf 10 (by decide))
     exact fV rfl rfl _ (ex_move (.tmp 66) rfl r66) hS uS
    ·intro f w1 hS hf aA hA
     have t67 := pG 67 11 hA sbRott12 (by kernel_rfl) zsz rfl (hf 11 (by decide))
     have r13 := pO 13 hA (by kernel_rfl) z13
     exact fV rfl ((wanted_of rfl 67 rfl t67).trans rfl) _ (ex_move (.tmp 13) rfl r13) hS uS
    ·intro f w1 hS hf aA hA
     have t67 := pG 67 11 hA sbRott12 (by kernel_rfl) zsz rfl (hf 11 (by decide))
     have r10 := pO 10 hA (by kernel_rfl) z10
     exact fV rfl ((wanted_of rfl 67 rfl t67).trans rfl) _ (ex_move (.tmp 10) rfl r10) hS uS
    ·intro f w1 hS hf aA hA
     have t67 := pG 67 11 hA sbRott12 (by kernel_rfl) zsz rfl (hf 11 (by decide))
     have r68 := pA 68 12 hA sbRott12 (by kernel_rfl) zsz rfl (hf 12 (by decide))
     have r69 := pA 69 13 hA sbRott12 (by kernel_rfl) zsz rfl (hf 13 (by decide))
     exact flw_call rfl ((wanted_of rfl 67 rfl t67).trans rfl) 21 #[(.tmp 68), (.tmp 69)] _ rfl #[(fl v9_7 0), v5_3] (mp2 r68 r69) (fun w => by kernel_rfl) (fun v w' => Us w' v (botU (srt q.2.1) (srt ((lb).map fewS)))) (us_both (HU9_7.out.p.keep hS) (HU5_3.out.keep hS) HPA.out (len_few _ 10000 (Nat.le_trans HLB.out (by decide)))) (fun v w' hr hb => ⟨hS.trans (hb.mono hS.size), Flz.of hb, (show Us w' (updF f 14 v 14) (botU (srt q.2.1) (srt ((lb).map fewS))) by rw [updF_self]; exact hr)⟩)
    ·intro f w1 hS hf aA hA
     have t67 := pG 67 11 hA sbRott12 (by kernel_rfl) zsz rfl (hf 11 (by decide))
     have hu14 : Us w1 (f 14) (botU (srt q.2.1) (srt ((lb).map fewS))) := (hf 14 (by decide))
     have e70 := pA 70 14 hA sbRott12 (by kernel_rfl) zsz rfl rfl
     obtain ⟨q9, c9, hv9, _⟩ := hu14
     exact fV rfl ((wanted_of rfl 67 rfl t67).trans rfl) _ (Eq.trans (ex_len 24 42 (.tmp 70) rfl (by kernel_rfl) q9 (botU (srt q.2.1) (srt ((lb).map fewS))).length c9 (e70.trans hv9)) (by rw [show (((botU (srt q.2.1) (srt ((lb).map fewS))).length : Nat) : Int) = 0 from HB1.out])) hS uS
    ·intro f w1 hS hf aA hA
     have t67 := pG 67 11 hA sbRott12 (by kernel_rfl) zsz rfl (hf 11 (by decide))
     have r71 := pA 71 15 hA sbRott12 (by kernel_rfl) zsz rfl (hf 15 (by decide))
     exact fV rfl ((wanted_of rfl 67 rfl t67).trans rfl) _ (Eq.trans (ex_int .eql _ _ (.tmp 71) _ rfl .i64 0 0 r71 rfl (.bool ((0 : Int) == (0 : Int))) (fun _ => rfl)) (by rw [(by decide : ((0 : Int) == (0 : Int)) = true)])) hS uS
    ·intro f w1 hS hf aA hA
     have r67 := pA 67 11 hA sbRott12 (by kernel_rfl) zsz rfl (hf 11 (by decide))
     have r72 := pA 72 16 hA sbRott12 (by kernel_rfl) zsz rfl (hf 16 (by decide))
     exact fV rfl rfl (.bool true) (ex_pick (.tmp 67) (.tmp 72) _ rfl true r67 ((if_pos rfl).trans r72)) hS uS
    ·intro f w1 hS hf aA hA
     have r73 := pA 73 17 hA sbRott12 (by kernel_rfl) zsz rfl (hf 17 (by decide))
     exact fV rfl rfl _ (ex_move (.tmp 73) rfl r73) hS uS
    ·intro f w1 hS hf aA hA
     have t74 := pG 74 18 hA sbRott12 (by kernel_rfl) zsz rfl (hf 18 (by decide))
     have r14 := pO 14 hA (by kernel_rfl) z14
     exact fV rfl ((wanted_of rfl 74 rfl t74).trans rfl) _ (ex_move (.tmp 14) rfl r14) hS uS
    ·intro f w1 hS hf aA hA
     have t74 := pG 74 18 hA sbRott12 (by kernel_rfl) zsz rfl (hf 18 (by decide))
     have r10 := pO 10 hA (by kernel_rfl) z10
     exact fV rfl ((wanted_of rfl 74 rfl t74).trans rfl) _ (ex_move (.tmp 10) rfl r10) hS uS
    ·intro f w1 hS hf aA hA
     have t74 := pG 74 18 hA sbRott12 (by kernel_rfl) zsz rfl (hf 18 (by decide))
     have r75 := pA 75 19 hA sbRott12 (by kernel_rfl) zsz rfl (hf 19 (by decide))
     have r76 := pA 76 20 hA sbRott12 (by kernel_rfl) zsz rfl (hf 20 (by decide))
     exact flw_call rfl ((wanted_of rfl 74 rfl t74).trans rfl) 20 #[(.tmp 75), (.tmp 76)] _ rfl #[(fl v9_8 1), v5_3] (mp2 r75 r76) (fun w => by kernel_rfl) (fun v w' => Us w' v (minU (srt q.2.2) (srt ((lb).map fewS)))) (us_minus (HU9_8.out.m.keep hS) (HU5_3.out.keep hS) HPB.out (len_few _ 10000 (Nat.le_trans HLB.out (by decide)))) (fun v w' hr hb => ⟨hS.trans (hb.mono hS.size), Flz.of hb, (show Us w' (updF f 21 v 21) (minU (srt q.2.2) (srt ((lb).map fewS))) by rw [updF_self]; exact hr)⟩)
    ·intro f w1 hS hf aA hA
     have t74 := pG 74 18 hA sbRott12 (by kernel_rfl) zsz rfl (hf 18 (by decide))
     have hu21 : Us w1 (f 21) (minU (srt q.2.2) (srt ((lb).map fewS))) := (hf 21 (by decide))
     have e77 := pA 77 21 hA sbRott12 (by kernel_rfl) zsz rfl rfl
     obtain ⟨q9, c9, hv9, _⟩ := hu21
     exact fV rfl ((wanted_of rfl 74 rfl t74).trans rfl) _ (Eq.trans (ex_len 24 42 (.tmp 77) rfl (by kernel_rfl) q9 (minU (srt q.2.2) (srt ((lb).map fewS))).length c9 (e77.trans hv9)) (by rw [show (((minU (srt q.2.2) (srt ((lb).map fewS))).length : Nat) : Int) = 0 from HB2.out])) hS uS
    ·intro f w1 hS hf aA hA
     have t74 := pG 74 18 hA sbRott12 (by kernel_rfl) zsz rfl (hf 18 (by decide))
     have r78 := pA 78 22 hA sbRott12 (by kernel_rfl) zsz rfl (hf 22 (by decide))
     exact fV rfl ((wanted_of rfl 74 rfl t74).trans rfl) _ (Eq.trans (ex_int .eql _ _ (.tmp 78) _ rfl .i64 0 0 r78 rfl (.bool ((0 : Int) == (0 : Int))) (fun _ => rfl)) (by rw [(by decide : ((0 : Int) == (0 : Int)) = true)])) hS uS
    ·intro f w1 hS hf aA hA
     have r74 := pA 74 18 hA sbRott12 (by kernel_rfl) zsz rfl (hf 18 (by decide))
     have r79 := pA 79 23 hA sbRott12 (by kernel_rfl) zsz rfl (hf 23 (by decide))
     exact fV rfl rfl (.bool true) (ex_pick (.tmp 74) (.tmp 79) _ rfl true r74 ((if_pos rfl).trans r79)) hS uS
   intro f u12 hS hf hap
   have h0 : f 0 = v5_1 := hf 0 (by decide)
   have h1 : f 1 = .int .i64 (((srt ((la).map fewS)).length : Int)) := hf 1 (by decide)
   have h2 : f 2 = v5_3 := hf 2 (by decide)
   have h3 : f 3 = .int .i64 (((srt ((lb).map fewS)).length : Int)) := hf 3 (by decide)
   have h4 : f 4 = .int .i64 (IntKind.i64.wrap ((((srt ((la).map fewS)).length : Int)) - (((srt ((lb).map fewS)).length : Int)))) := hf 4 (by decide)
   have h5 : f 5 = (fl v9_7 0) := hf 5 (by decide)
   have h6 : f 6 = .int .i64 (((srt q.2.1).length : Int)) := hf 6 (by decide)
   have h7 : f 7 = (fl v9_8 1) := hf 7 (by decide)
   have h8 : f 8 = .int .i64 (((srt q.2.2).length : Int)) := hf 8 (by decide)
   have h9 : f 9 = .int .i64 (IntKind.i64.wrap ((((srt q.2.1).length : Int)) - (((srt q.2.2).length : Int)))) := hf 9 (by decide)
   have h10 : f 10 = .bool true := hf 10 (by decide)
   have h11 : f 11 = .bool true := hf 11 (by decide)
   have h12 : f 12 = (fl v9_7 0) := hf 12 (by decide)
   have h13 : f 13 = v5_3 := hf 13 (by decide)
   obtain ⟨v12_14, h14, hu14⟩ : ∃ v, f 14 = v ∧ Us u12 v (botU (srt q.2.1) (srt ((lb).map fewS))) := ⟨_, rfl, (hf 14 (by decide))⟩
   have HU12_14 := Lib.hid hu14
   clear hu14
   have h15 : f 15 = .int .i64 0 := hf 15 (by decide)
   have h16 : f 16 = .bool true := hf 16 (by decide)
   have h17 : f 17 = .bool true := hf 17 (by decide)
   have h18 : f 18 = .bool true := hf 18 (by decide)
   have h19 : f 19 = (fl v9_8 1) := hf 19 (by decide)
   have h20 : f 20 = v5_3 := hf 20 (by decide)
   obtain ⟨v12_21, h21, hu21⟩ : ∃ v, f 21 = v ∧ Us u12 v (minU (srt q.2.2) (srt ((lb).map fewS))) := ⟨_, rfl, (hf 21 (by decide))⟩
   have HU12_21 := Lib.hid hu21
   clear hu21
   have h22 : f 22 = .int .i64 0 := hf 22 (by decide)
   have h23 : f 23 = .bool true := hf 23 (by decide)
   have h24 : f 24 = .bool true := hf 24 (by decide)
   clear hf hap
   clear zsz z9 z10 z13 z14
   subst ha0
   simp only [slotsRott12, putAll, h0, h1, h2, h3, h4, h5, h6, h7, h8, h9, h10, h11, h12, h13, h14, h15, h16, h17, h18, h19, h20, h21, h22, h23, h24, Act.put, List.setIfInBounds_toArray, List.set_cons_zero, List.set_cons_succ]
   clear h0 h1 h2 h3 h4 h5 h6 h7 h8 h9 h10 h11 h12 h13 h14 h15 h16 h17 h18 h19 h20 h21 h22 h23 h24
   have hBS := HB.out.trans (hS.mono HB.out.size)
   replace HU5_1 := Lib.hid (HU5_1.out.keep hS)
   replace HU5_3 := Lib.hid (HU5_3.out.keep hS)
   replace HX_b6_7 := Lib.hid (HX_b6_7.out.keepB hS)
   replace HU6_5 := Lib.hid (HU6_5.out.keep hS)
   replace HU9_7 := Lib.hid (HU9_7.out.keep hS)
   replace HU9_8 := Lib.hid (HU9_8.out.keep hS)
   clear hS
   refine tl_pure rfl (by kernel_rfl) (.bool true) (ex_assign (.tmp 80) rfl rfl) ?_
   try simp only [Act.put, List.setIfInBounds_toArray, List.set_cons_zero, List.set_cons_succ]
   refine tl_nil ?_
   replace HB := Lib.hid hBS
   clear hBS
   go_wp2_with fail
   go_ret
   exact ⟨rfl, HB.out⟩
theorem peelRoom_law (s : Nat) (n : Int) (la lb : List Int) (qa qb : Option Addr) (ca cb : Nat) (w : World) (hs : s < 18446744073709551616) (hL : Laid w) (ha : Sees w w.heap.size qa (la.map fun n => Value.int .i64 n)) (hb : Sees w w.heap.size qb (lb.map fun n => Value.int .i64 n)) : Calls Tryd.prog 5 #[.int .u64 (s : Int), .int .i64 n, .slice qa la.length ca, .slice qb lb.length cb] w fun e w' => e = .returned (.bool true) ∧ Below w.heap.size w w' := peelRoom_b s n la lb qa qb ca cb w w (Below.refl _ _) hs hL ha hb
end Go.Proofs.YtnkcehmgagpadaaDoor
