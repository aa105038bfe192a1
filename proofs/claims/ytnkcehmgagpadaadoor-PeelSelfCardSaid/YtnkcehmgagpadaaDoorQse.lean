/- The law PeelSelf: it answers true. Conditions: the sums' tables are laid; a seed of 64 bits; what comes in lies in memory. -/
import Derived.Test.YtnkcehmgagpadaaDoorSq
import Derived.Test.YtnkcehmgagpadaaDoorQw
namespace Go.Proofs.YtnkcehmgagpadaaDoor
open Go.RowKit
theorem self_ok {m : Nat} (hg : goodN (m : Int) = true) (B : List Su) : ownB B (List.replicate m zC, [], []) = true := ownB_of hg (by simp) (fun _ h => by cases h) (fun _ h => by cases h)
def waitSe1 (i : Nat) : List Nat := ([[], [0]] : List (List Nat)).getD i []
def slotsSe1 : List (Nat × Nat) := [(13, 0), (14, 1)]
theorem sbSe1 : slotsB slotsSe1 = true := by kernel_rfl
theorem chkSe1 : flwO slotsSe1 waitSe1 2 (regOf Tryd.f7.body 1) = true := by kernel_rfl
def waitSe5 (i : Nat) : List Nat := ([[], [0], [1]] : List (List Nat)).getD i []
def slotsSe5 : List (Nat × Nat) := [(22, 0), (23, 1), (7, 2)]
theorem sbSe5 : slotsB slotsSe5 = true := by kernel_rfl
theorem chkSe5 : flwO slotsSe5 waitSe5 3 (regOf Tryd.f7.body 5) = true := by kernel_rfl
def waitSef6 (i : Nat) : List Nat := ([[], [], [], [0, 1, 2], [3], [4], [4], [], [0, 1, 2, 3, 4, 5, 6, 7], [0, 1, 2, 3, 4, 5, 6, 7, 8]] : List (List Nat)).getD i []
def slotsSef6 : List (Nat × Nat) := [(25, 0), (26, 1), (27, 2), (28, 3), (24, 4), (29, 5), (30, 6), (8, 7), (9, 9)]
theorem sbSef6 : slotsB slotsSef6 = true := by kernel_rfl
theorem chkSef6 : flwO slotsSef6 waitSef6 8 (regOf Tryd.f7.body 6) = true := by kernel_rfl
def waitSef7 (i : Nat) : List Nat := ([[], [0]] : List (List Nat)).getD i []
def slotsSef7 : List (Nat × Nat) := [(31, 0), (32, 1)]
theorem sbSef7 : slotsB slotsSef7 = true := by kernel_rfl
theorem chkSef7 : flwO slotsSef7 waitSef7 2 (regOf Tryd.f7.body 7) = true := by kernel_rfl
def waitSet9 (i : Nat) : List Nat := ([[], [], [0, 1], [2], [3], [3], [3], [4], [5], [6]] : List (List Nat)).getD i []
def slotsSet9 : List (Nat × Nat) := [(34, 0), (35, 1), (36, 2), (33, 3), (37, 4), (38, 5), (39, 6), (10, 7), (11, 8), (12, 9)]
theorem sbSet9 : slotsB slotsSet9 = true := by kernel_rfl
theorem chkSet9 : flwO slotsSet9 waitSet9 10 (regOf Tryd.f7.body 9) = true := by kernel_rfl
def waitSet10 (i : Nat) : List Nat := ([[], [0], [1], [2], [2, 3], [2, 4], [2, 5], [6], [7], [7, 8], [7, 9], [7, 10], [0, 1, 2, 3, 4, 5, 6, 7, 8, 9, 10, 11]] : List (List Nat)).getD i []
def slotsSet10 : List (Nat × Nat) := [(40, 0), (41, 1), (42, 2), (43, 3), (44, 4), (45, 5), (46, 6), (47, 7), (48, 8), (49, 9), (50, 10), (51, 11), (6, 12)]
theorem sbSet10 : slotsB slotsSet10 = true := by kernel_rfl
theorem chkSet10 : flwO slotsSet10 waitSet10 12 (regOf Tryd.f7.body 10) = true := by kernel_rfl
set_option maxHeartbeats 32000000 in
set_option maxRecDepth 100000 in
theorem peelSelf_b (s : Nat) (n : Int) (la : List Int) (qa : Option Addr) (ca : Nat) (w w0 : World) (hB : Below w.heap.size w w0) (hs : s < 18446744073709551616) (hL : Laid w) (ha : Sees w w.heap.size qa (la.map fun n => Value.int .i64 n)) : Calls Tryd.prog 7 #[.int .u64 (s : Int), .int .i64 n, .slice qa la.length ca] w0 fun e w' => e = .returned (.bool true) ∧ Below w.heap.size w w' := by
 have HB := Lib.hid hB
 clear hB
 have HL := Lib.hid hL
 have HSZ := Lib.hid hL.size
 have HSD := Lib.hid hs
 have HSA : Hid (Ins w (.slice qa la.length ca) la) := Lib.hid ⟨qa, ca, rfl, ha⟩
 clear hL hs ha
 go_enter Tryd.func7, Tryd.ntmps7
 go_upto_region 0 with fail
 refine wp_region_lit ?_
 try simp only [Act.put, List.setIfInBounds_toArray, List.set_cons_zero, List.set_cons_succ]
 refine lp_pure (v := .bool false) rfl (ex_assign _ rfl rfl) ?_
 try simp only [Act.put, List.setIfInBounds_toArray, List.set_cons_zero, List.set_cons_succ]
 refine wpList_nil ?_
 go_upto_region 1 with fail
 refine wp_act (fun a0 ha0 => ?_)
 have zsz : a0.tmps.size = 52 := by rw [ha0]; rfl
 refine wrO [] slotsSe1 waitSe1 [Fct.val Flz 0 (.bool true), Fct.val Flz 1 (.bool false)] (fun w' => Below w0.heap.size w0 w') _ 2 0 chkSe1 (by kernel_rfl) (by kernel_rfl) (by kernel_rfl) (by decide) (Below.refl _ _) ?_ ?_
 ·refine lt_s (lt_s (lt_0) ?_) ?_
  ·intro f w1 hS hf aA hA
   exact fC rfl rfl 8 #[] _ rfl #[] (by kernel_rfl) (fun w => by kernel_rfl) _ (awake16_any w1 (HL.out.keep (HB.out.trans (hS.mono HB.out.size)) HSZ.out)) hS (fun _ _ h => uS.trans h)
  ·intro f w1 hS hf aA hA
   have r13 := pA 13 0 hA sbSe1 (by kernel_rfl) zsz rfl (hf 0 (by decide))
   exact fV rfl rfl _ (ex_not _ (.tmp 13) rfl r13) hS uS
 intro f u1 hS hf hap
 have h0 : f 0 = .bool true := hf 0 (by decide)
 have h1 : f 1 = .bool false := hf 1 (by decide)
 clear hf hap
 clear zsz
 subst ha0
 simp only [slotsSe1, putAll, h0, h1, Act.put, List.setIfInBounds_toArray, List.set_cons_zero, List.set_cons_succ]
 clear h0 h1
 refine tl_nil ?_
 replace HB := Lib.hid (HB.out.trans (hS.mono HB.out.size))
 clear hS
 by_cases h1 : 40 < la.length
 ·have k1 : (40 : Int) < (la.length : Int) := by omega
  go_wp2_with fail
  go_ret
  exact ⟨rfl, HB.out⟩
 have k1 : ¬ (40 : Int) < (la.length : Int) := by omega
 by_cases h3 : 200 < n
 ·go_wp2_with fail
  go_ret
  exact ⟨rfl, HB.out⟩
 have HLA : Hid (la.length ≤ 40) := Lib.hid (by omega)
 clear h1
 obtain ⟨gd, hgd⟩ : ∃ gd, goodN n = gd := ⟨_, rfl⟩
 have HGD := Lib.hid hgd
 clear hgd
 go_upto_region 5 with fail
 refine wp_act (fun a0 ha0 => ?_)
 have zsz : a0.tmps.size = 52 := by rw [ha0]; rfl
 have z2 : a0.eval (.tmp 2) = .slice qa la.length ca := by rw [ha0]; rfl
 refine wrO [] slotsSe5 waitSe5 [Fct.val Flz 0 (.slice qa la.length ca), Fct.obj 1 (fun v w => Us w v (srt ((la).map fewS))) (fun _ _ _ h he => h.flz he), (⟨([2, 1], fun f _ => f 2 = f 1), fun f f' _ _ h _ hd => (show f' 2 = f' 1 by rw [hd 2 (by simp), hd 1 (by simp)]; exact h)⟩ : Fct Flz)] (fun w' => Below u1.heap.size u1 w') _ 3 0 chkSe5 (by kernel_rfl) (by kernel_rfl) (by kernel_rfl) (by decide) (Below.refl _ _) ?_ ?_
 ·refine lt_s (lt_s (lt_s (lt_0) ?_) ?_) ?_
  ·intro f w1 hS hf aA hA
   have r2 := pO 2 hA (by kernel_rfl) z2
   exact fV rfl rfl _ (ex_move (.tmp 2) rfl r2) hS uS
  ·intro f w1 hS hf aA hA
   have r22 := pA 22 0 hA sbSe5 (by kernel_rfl) zsz rfl (hf 0 (by decide))
   exact flw_call rfl rfl 12 #[(.tmp 22)] _ rfl #[.slice qa la.length ca] (mp1 r22) (fun w => by kernel_rfl) (fun v w' => Us w' v (srt ((la).map fewS))) (few16_us _ (la) w1 (HL.out.keep (HB.out.trans (hS.mono HB.out.size)) HSZ.out) (Nat.le_trans HLA.out (by decide)) (HSA.out.keep (HB.out.trans (hS.mono HB.out.size)))) (fun v w' hr hb => ⟨hS.trans (hb.mono hS.size), Flz.of hb, (show Us w' (updF f 1 v 1) (srt ((la).map fewS)) by rw [updF_self]; exact hr)⟩)
  ·intro f w1 hS hf aA hA
   have hu1 : Us w1 (f 1) (srt ((la).map fewS)) := (hf 1 (by decide))
   have e23 := pA 23 1 hA sbSe5 (by kernel_rfl) zsz rfl rfl
   exact flw_val rfl rfl (f 1) (ex_assign (.tmp 23) rfl e23) hS (Flz.refl _) (show updF f 2 (f 1) 2 = updF f 2 (f 1) 1 by rw [updF_self, updF_ne f _ (by decide)])
 intro f u5 hS hf hap
 have h0 : f 0 = .slice qa la.length ca := hf 0 (by decide)
 obtain ⟨v5_1, h1, hu1⟩ : ∃ v, f 1 = v ∧ Us u5 v (srt ((la).map fewS)) := ⟨_, rfl, (hf 1 (by decide))⟩
 have HU5_1 := Lib.hid hu1
 clear hu1
 have h2 : f 2 = v5_1 := Eq.trans (hf 2 (by decide)) h1
 clear hf hap
 clear zsz z2
 subst ha0
 simp only [slotsSe5, putAll, h0, h1, h2, Act.put, List.setIfInBounds_toArray, List.set_cons_zero, List.set_cons_succ]
 clear h0 h1 h2
 refine tl_nil ?_
 replace HB := Lib.hid (HB.out.trans (hS.mono HB.out.size))
 clear hS
 cases gd
 ·go_upto_region 6 with fail
  refine wp_act (fun a0 ha0 => ?_)
  have zsz : a0.tmps.size = 52 := by rw [ha0]; rfl
  have z0 : a0.eval (.tmp 0) = .int .u64 (s : Int) := by rw [ha0]; rfl
  have z1 : a0.eval (.tmp 1) = .int .i64 n := by rw [ha0]; rfl
  have z7 : a0.eval (.tmp 7) = v5_1 := by rw [ha0]; rfl
  refine wrO [] slotsSef6 waitSef6 [Fct.val Flz 0 (.int .u64 (s : Int)), Fct.val Flz 1 (.int .i64 n), Fct.val Flz 2 (v5_1), Fct.obj 3 (fun v w => ∃ zz, v = .tuple #[.agg #[.int .u64 0, zz], .int .i64 1] ∧ Cs w zz (([] : List Ce))) (fun _ _ _ ⟨zz, a, b⟩ he => ⟨zz, a, b.flz he⟩), Fct.obj 4 (fun v w => ∃ zz, v = .tuple #[.agg #[.int .u64 0, zz], .int .i64 1] ∧ Cs w zz (([] : List Ce))) (fun _ _ _ ⟨zz, a, b⟩ he => ⟨zz, a, b.flz he⟩), Fct.obj 5 (fun v w => ∃ zz, v = .agg #[.int .u64 0, zz] ∧ Cs w zz (([] : List Ce))) (fun _ _ _ ⟨zz, a, b⟩ he => ⟨zz, a, b.flz he⟩), Fct.val Flz 6 (.int .i64 1), Fct.obj 7 (fun v w => ∃ g, v = .pointer (some ⟨g, 0, none⟩) ∧ u5.heap.size ≤ g ∧ Has w g 28 ([.int .u64 0, .slice none 0 0])) (fun _ _ _ ⟨g, a, b, c⟩ he => ⟨g, a, b, c.flz he (by decide)⟩)] (fun w' => Below u5.heap.size u5 w') _ 8 2 chkSef6 (by kernel_rfl) (by kernel_rfl) (by kernel_rfl) (by decide) (Below.refl _ _) ?_ ?_
  ·refine lt_s (lt_s (lt_s (lt_s (lt_s (lt_s (lt_s (lt_s (lt_0) ?_) ?_) ?_) ?_) ?_) ?_) ?_) ?_
   ·intro f w1 hS hf aA hA
    have r0 := pO 0 hA (by kernel_rfl) z0
    exact fV rfl rfl _ (ex_move (.tmp 0) rfl r0) hS uS
   ·intro f w1 hS hf aA hA
    have r1 := pO 1 hA (by kernel_rfl) z1
    exact fV rfl rfl _ (ex_move (.tmp 1) rfl r1) hS uS
   ·intro f w1 hS hf aA hA
    have r7 := pO 7 hA (by kernel_rfl) z7
    exact fV rfl rfl _ (ex_move (.tmp 7) rfl r7) hS uS
   ·intro f w1 hS hf aA hA
    have r25 := pA 25 0 hA sbSef6 (by kernel_rfl) zsz rfl (hf 0 (by decide))
    have r26 := pA 26 1 hA sbSef6 (by kernel_rfl) zsz rfl (hf 1 (by decide))
    have r27 := pA 27 2 hA sbSef6 (by kernel_rfl) zsz rfl (hf 2 (by decide))
    exact fC rfl rfl 11 #[(.tmp 25), (.tmp 26), (.tmp 27)] _ rfl #[.int .u64 (s : Int), .int .i64 n, v5_1] (mp3 r25 r26 r27) (fun w => by kernel_rfl) _ (of_f s n _ (srt ((la).map fewS)) HGD.out w1 HSD.out (HL.out.keep (HB.out.trans (hS.mono HB.out.size)) HSZ.out) (len_few _ 10000 (Nat.le_trans HLA.out (by decide))) (HU5_1.out.keep hS)) hS (fun _ _ ⟨zz, a, b⟩ => ⟨zz, uS.trans a, b⟩)
   ·intro f w1 hS hf aA hA
    obtain ⟨x28, hx28, hr28⟩ := hf 3 (by decide)
    have e28 := pA 28 3 hA sbSef6 (by kernel_rfl) zsz rfl hx28
    exact flw_val rfl rfl (.tuple #[.agg #[.int .u64 0, x28], .int .i64 1]) (ex_move (.tmp 28) rfl e28) hS (Flz.refl _) ⟨x28, uS, hr28⟩
   ·intro f w1 hS hf aA hA
    obtain ⟨x24, hx24, hr24⟩ := hf 4 (by decide)
    have e24 := pA 24 4 hA sbSef6 (by kernel_rfl) zsz rfl hx24
    exact flw_val rfl rfl (.agg #[.int .u64 0, x24]) (ex_extract (.tmp 24) 0 rfl e24 rfl) hS (Flz.refl _) ⟨x24, uS, hr24⟩
   ·intro f w1 hS hf aA hA
    obtain ⟨x24, hx24, hr24⟩ := hf 4 (by decide)
    have e24 := pA 24 4 hA sbSef6 (by kernel_rfl) zsz rfl hx24
    exact fV rfl rfl _ (ex_extract (.tmp 24) 1 rfl e24 rfl) hS uS
   ·intro f w1 hS hf aA hA
    exact flw_wp rfl rfl (fun K hK => wp_alloc_row 28 rfl (.agg #[.int .u64 0, .slice none 0 0]) (fun w => by kernel_rfl) (hK _ _ (hS.alloc hS.size _) (Flz.al _ _) ⟨_, uS, hS.size, Has.made' _ _ _ _ rfl⟩))
  intro f x6 hS hf hap
  have h0 : f 0 = .int .u64 (s : Int) := hf 0 (by decide)
  have h1 : f 1 = .int .i64 n := hf 1 (by decide)
  have h2 : f 2 = v5_1 := hf 2 (by decide)
  obtain ⟨v6_3, h3, -⟩ := hf 3 (by decide)
  obtain ⟨v6_4, h4, -⟩ := hf 4 (by decide)
  obtain ⟨v6_5, h5, hu5⟩ := hf 5 (by decide)
  have HU6_5 := Lib.hid hu5
  clear hu5
  have h6 : f 6 = .int .i64 1 := hf 6 (by decide)
  obtain ⟨b6_7, h7, hgb7, hhb7⟩ := hf 7 (by decide)
  clear hf hap
  clear zsz z0 z1 z7
  subst ha0
  simp only [slotsSef6, putAll, h0, h1, h2, h3, h4, h5, h6, h7, Act.put, List.setIfInBounds_toArray, List.set_cons_zero, List.set_cons_succ]
  clear h0 h1 h2 h3 h4 h5 h6 h7
  refine tl_store rfl (by kernel_rfl) 28 (.tmp 8) (.tmp 29) rfl b6_7 ([.int .u64 0, v6_5]) _ rfl rfl _ hhb7 (by kernel_rfl) rfl (tb_ones _ HU6_5.out.one) ?_
  intro u6 hp7 hbl hot
  replace hS := hS.trans (hbl _ hgb7)
  replace HU6_5 := Lib.hid (HU6_5.out.hotb hhb7 ⟨_, _, _, rfl⟩ (by decide) (hbl 0 (Nat.zero_le _)).size hot)
  clear hbl hot hhb7
  try simp only [Act.put]
  refine tl_pure rfl (by kernel_rfl) (.int .i64 1) (ex_assign (.tmp 30) rfl rfl) ?_
  try simp only [Act.put, List.setIfInBounds_toArray, List.set_cons_zero, List.set_cons_succ]
  refine tl_nil ?_
  replace HU5_1 := Lib.hid (HU5_1.out.keep hS)
  have HBW := Lib.hid HB.out.size
  replace HB := Lib.hid (HB.out.trans (hS.mono HB.out.size))
  clear hS
  have HGb6_7 : Hid (w.heap.size ≤ b6_7) := Lib.hid (Nat.le_trans HBW.out hgb7)
  have HX_b6_7 : Hid (Has u6 b6_7 28 ([.int .u64 0, v6_5])) := Lib.hid hp7
  clear hp7 hgb7
  clear HBW
  go_upto_region 7 with fail
  refine wp_act (fun a0 ha0 => ?_)
  have zsz : a0.tmps.size = 52 := by rw [ha0]; rfl
  have z9 : a0.eval (.tmp 9) = .int .i64 1 := by rw [ha0]; rfl
  refine wrO [] slotsSef7 waitSef7 [Fct.val Flz 0 (.int .i64 1), Fct.val Flz 1 (.bool true)] (fun w' => Below u6.heap.size u6 w') _ 2 0 chkSef7 (by kernel_rfl) (by kernel_rfl) (by kernel_rfl) (by decide) (Below.refl _ _) ?_ ?_
  ·refine lt_s (lt_s (lt_0) ?_) ?_
   ·intro f w1 hS hf aA hA
    have r9 := pO 9 hA (by kernel_rfl) z9
    exact fV rfl rfl _ (ex_move (.tmp 9) rfl r9) hS uS
   ·intro f w1 hS hf aA hA
    have r31 := pA 31 0 hA sbSef7 (by kernel_rfl) zsz rfl (hf 0 (by decide))
    exact fV rfl rfl _ (Eq.trans (ex_int .neq _ _ (.tmp 31) _ rfl .i64 1 0 r31 rfl (.bool ((1 : Int) != (0 : Int))) (fun _ => rfl)) (by rw [(by decide : ((1 : Int) != (0 : Int)) = true)])) hS uS
  intro f u7 hS hf hap
  have h0 : f 0 = .int .i64 1 := hf 0 (by decide)
  have h1 : f 1 = .bool true := hf 1 (by decide)
  clear hf hap
  clear zsz z9
  subst ha0
  simp only [slotsSef7, putAll, h0, h1, Act.put, List.setIfInBounds_toArray, List.set_cons_zero, List.set_cons_succ]
  clear h0 h1
  refine tl_nil ?_
  replace HU5_1 := Lib.hid (HU5_1.out.keep hS)
  replace HX_b6_7 := Lib.hid (HX_b6_7.out.keepB hS)
  replace HU6_5 := Lib.hid (HU6_5.out.keep hS)
  replace HB := Lib.hid (HB.out.trans (hS.mono HB.out.size))
  clear hS
  go_wp2_with fail
  go_ret
  exact ⟨rfl, HB.out⟩
 ·obtain ⟨m, hm, hm3, hm4⟩ := good_int HGD.out
  have HM := Lib.hid hm
  have HM4 := Lib.hid hm4
  have HGM : Hid (goodN (m : Int) = true) := Lib.hid (by rw [← hm]; exact HGD.out)
  clear hm hm3 hm4
  go_upto_region 6 with fail
  refine wp_act (fun a0 ha0 => ?_)
  have zsz : a0.tmps.size = 52 := by rw [ha0]; rfl
  have z0 : a0.eval (.tmp 0) = .int .u64 (s : Int) := by rw [ha0]; rfl
  have z1 : a0.eval (.tmp 1) = .int .i64 n := by rw [ha0]; rfl
  have z7 : a0.eval (.tmp 7) = v5_1 := by rw [ha0]; rfl
  refine wrO [] slotsSef6 waitSef6 [Fct.val Flz 0 (.int .u64 (s : Int)), Fct.val Flz 1 (.int .i64 n), Fct.val Flz 2 (v5_1), Fct.obj 3 (fun v w => ∃ zz, v = .tuple #[.agg #[.int .u64 (s : Int), zz], .int .i64 0] ∧ Cs w zz (tabP s m (srt ((la).map fewS)))) (fun _ _ _ ⟨zz, a, b⟩ he => ⟨zz, a, b.flz he⟩), Fct.obj 4 (fun v w => ∃ zz, v = .tuple #[.agg #[.int .u64 (s : Int), zz], .int .i64 0] ∧ Cs w zz (tabP s m (srt ((la).map fewS)))) (fun _ _ _ ⟨zz, a, b⟩ he => ⟨zz, a, b.flz he⟩), Fct.obj 5 (fun v w => ∃ zz, v = .agg #[.int .u64 (s : Int), zz] ∧ Cs w zz (tabP s m (srt ((la).map fewS)))) (fun _ _ _ ⟨zz, a, b⟩ he => ⟨zz, a, b.flz he⟩), Fct.val Flz 6 (.int .i64 0), Fct.obj 7 (fun v w => ∃ g, v = .pointer (some ⟨g, 0, none⟩) ∧ u5.heap.size ≤ g ∧ Has w g 28 ([.int .u64 0, .slice none 0 0])) (fun _ _ _ ⟨g, a, b, c⟩ he => ⟨g, a, b, c.flz he (by decide)⟩)] (fun w' => Below u5.heap.size u5 w') _ 8 2 chkSef6 (by kernel_rfl) (by kernel_rfl) (by kernel_rfl) (by decide) (Below.refl _ _) ?_ ?_
  ·refine lt_s (lt_s (lt_s (lt_s (lt_s (lt_s (lt_s (lt_s (lt_0) ?_) ?_) ?_) ?_) ?_) ?_) ?_) ?_
   ·intro f w1 hS hf aA hA
    have r0 := pO 0 hA (by kernel_rfl) z0
    exact fV rfl rfl _ (ex_move (.tmp 0) rfl r0) hS uS
   ·intro f w1 hS hf aA hA
    have r1 := pO 1 hA (by kernel_rfl) z1
    exact fV rfl rfl _ (ex_move (.tmp 1) rfl r1) hS uS
   ·intro f w1 hS hf aA hA
    have r7 := pO 7 hA (by kernel_rfl) z7
    exact fV rfl rfl _ (ex_move (.tmp 7) rfl r7) hS uS
   ·intro f w1 hS hf aA hA
    have r25 := pA 25 0 hA sbSef6 (by kernel_rfl) zsz rfl (hf 0 (by decide))
    have r26 := pA 26 1 hA sbSef6 (by kernel_rfl) zsz rfl (hf 1 (by decide))
    have r27 := pA 27 2 hA sbSef6 (by kernel_rfl) zsz rfl (hf 2 (by decide))
    exact fC rfl rfl 11 #[(.tmp 25), (.tmp 26), (.tmp 27)] _ rfl #[.int .u64 (s : Int), .int .i64 n, v5_1] (mp3 r25 r26 r27) (fun w => by kernel_rfl) _ (ofA_t s n m _ (srt ((la).map fewS)) HGD.out HM.out (asc_few _) w1 HSD.out (HL.out.keep (HB.out.trans (hS.mono HB.out.size)) HSZ.out) (len_few _ 10000 (Nat.le_trans HLA.out (by decide))) (HU5_1.out.keep hS)) hS (fun _ _ ⟨zz, a, b⟩ => ⟨zz, uS.trans a, b⟩)
   ·intro f w1 hS hf aA hA
    obtain ⟨x28, hx28, hr28⟩ := hf 3 (by decide)
    have e28 := pA 28 3 hA sbSef6 (by kernel_rfl) zsz rfl hx28
    exact flw_val rfl rfl (.tuple #[.agg #[.int .u64 (s : Int), x28], .int .i64 0]) (ex_move (.tmp 28) rfl e28) hS (Flz.refl _) ⟨x28, uS, hr28⟩
   ·intro f w1 hS hf aA hA
    obtain ⟨x24, hx24, hr24⟩ := hf 4 (by decide)
    have e24 := pA 24 4 hA sbSef6 (by kernel_rfl) zsz rfl hx24
    exact flw_val rfl rfl (.agg #[.int .u64 (s : Int), x24]) (ex_extract (.tmp 24) 0 rfl e24 rfl) hS (Flz.refl _) ⟨x24, uS, hr24⟩
   ·intro f w1 hS hf aA hA
    obtain ⟨x24, hx24, hr24⟩ := hf 4 (by decide)
    have e24 := pA 24 4 hA sbSef6 (by kernel_rfl) zsz rfl hx24
    exact fV rfl rfl _ (ex_extract (.tmp 24) 1 rfl e24 rfl) hS uS
   ·intro f w1 hS hf aA hA
    exact flw_wp rfl rfl (fun K hK => wp_alloc_row 28 rfl (.agg #[.int .u64 0, .slice none 0 0]) (fun w => by kernel_rfl) (hK _ _ (hS.alloc hS.size _) (Flz.al _ _) ⟨_, uS, hS.size, Has.made' _ _ _ _ rfl⟩))
  intro f x6 hS hf hap
  have h0 : f 0 = .int .u64 (s : Int) := hf 0 (by decide)
  have h1 : f 1 = .int .i64 n := hf 1 (by decide)
  have h2 : f 2 = v5_1 := hf 2 (by decide)
  obtain ⟨v6_3, h3, -⟩ := hf 3 (by decide)
  obtain ⟨v6_4, h4, -⟩ := hf 4 (by decide)
  obtain ⟨v6_5, h5, hu5⟩ := hf 5 (by decide)
  have HU6_5 := Lib.hid hu5
  clear hu5
  have h6 : f 6 = .int .i64 0 := hf 6 (by decide)
  obtain ⟨b6_7, h7, hgb7, hhb7⟩ := hf 7 (by decide)
  clear hf hap
  clear zsz z0 z1 z7
  subst ha0
  simp only [slotsSef6, putAll, h0, h1, h2, h3, h4, h5, h6, h7, Act.put, List.setIfInBounds_toArray, List.set_cons_zero, List.set_cons_succ]
  clear h0 h1 h2 h3 h4 h5 h6 h7
  refine tl_store rfl (by kernel_rfl) 28 (.tmp 8) (.tmp 29) rfl b6_7 ([.int .u64 (s : Int), v6_5]) _ rfl rfl _ hhb7 (by kernel_rfl) rfl (tb_ones _ HU6_5.out.one) ?_
  intro u6 hp7 hbl hot
  replace hS := hS.trans (hbl _ hgb7)
  replace HU6_5 := Lib.hid (HU6_5.out.hotb hhb7 ⟨_, _, _, rfl⟩ (by decide) (hbl 0 (Nat.zero_le _)).size hot)
  clear hbl hot hhb7
  try simp only [Act.put]
  refine tl_pure rfl (by kernel_rfl) (.int .i64 0) (ex_assign (.tmp 30) rfl rfl) ?_
  try simp only [Act.put, List.setIfInBounds_toArray, List.set_cons_zero, List.set_cons_succ]
  refine tl_nil ?_
  replace HU5_1 := Lib.hid (HU5_1.out.keep hS)
  have HBW := Lib.hid HB.out.size
  replace HB := Lib.hid (HB.out.trans (hS.mono HB.out.size))
  clear hS
  have HGb6_7 : Hid (w.heap.size ≤ b6_7) := Lib.hid (Nat.le_trans HBW.out hgb7)
  have HX_b6_7 : Hid (Has u6 b6_7 28 ([.int .u64 (s : Int), v6_5])) := Lib.hid hp7
  clear hp7 hgb7
  clear HBW
  go_upto_region 7 with fail
  refine wp_act (fun a0 ha0 => ?_)
  have zsz : a0.tmps.size = 52 := by rw [ha0]; rfl
  have z9 : a0.eval (.tmp 9) = .int .i64 0 := by rw [ha0]; rfl
  refine wrO [] slotsSef7 waitSef7 [Fct.val Flz 0 (.int .i64 0), Fct.val Flz 1 (.bool false)] (fun w' => Below u6.heap.size u6 w') _ 2 0 chkSef7 (by kernel_rfl) (by kernel_rfl) (by kernel_rfl) (by decide) (Below.refl _ _) ?_ ?_
  ·refine lt_s (lt_s (lt_0) ?_) ?_
   ·intro f w1 hS hf aA hA
    have r9 := pO 9 hA (by kernel_rfl) z9
    exact fV rfl rfl _ (ex_move (.tmp 9) rfl r9) hS uS
   ·intro f w1 hS hf aA hA
    have r31 := pA 31 0 hA sbSef7 (by kernel_rfl) zsz rfl (hf 0 (by decide))
    exact fV rfl rfl _ (Eq.trans (ex_int .neq _ _ (.tmp 31) _ rfl .i64 0 0 r31 rfl (.bool ((0 : Int) != (0 : Int))) (fun _ => rfl)) (by rw [(by decide : ((0 : Int) != (0 : Int)) = false)])) hS uS
  intro f u7 hS hf hap
  have h0 : f 0 = .int .i64 0 := hf 0 (by decide)
  have h1 : f 1 = .bool false := hf 1 (by decide)
  clear hf hap
  clear zsz z9
  subst ha0
  simp only [slotsSef7, putAll, h0, h1, Act.put, List.setIfInBounds_toArray, List.set_cons_zero, List.set_cons_succ]
  clear h0 h1
  refine tl_nil ?_
  replace HU5_1 := Lib.hid (HU5_1.out.keep hS)
  replace HX_b6_7 := Lib.hid (HX_b6_7.out.keepB hS)
  replace HU6_5 := Lib.hid (HU6_5.out.keep hS)
  replace HB := Lib.hid (HB.out.trans (hS.mono HB.out.size))
  clear hS
  go_upto_region 9 with fail
  refine wp_act (fun a0 ha0 => ?_)
  have zsz : a0.tmps.size = 52 := by rw [ha0]; rfl
  have z8 : a0.eval (.tmp 8) = .pointer (some ⟨b6_7, 0, none⟩) := by rw [ha0]; rfl
  have z7 : a0.eval (.tmp 7) = v5_1 := by rw [ha0]; rfl
  refine wrO [] slotsSet9 waitSet9 [Fct.val Flz 0 (.agg #[.int .u64 (s : Int), v6_5]), Fct.val Flz 1 (v5_1), Fct.obj 2 (fun v w => ∃ zz, v = .tuple #[(fl zz 0), (fl zz 1), .int .i64 0] ∧ OwnR (([] : List Su)) (([] : List Su)) w zz) (fun _ _ _ ⟨zz, a, b⟩ he => ⟨zz, a, b.flz he⟩), Fct.obj 3 (fun v w => ∃ zz, v = .tuple #[(fl zz 0), (fl zz 1), .int .i64 0] ∧ OwnR (([] : List Su)) (([] : List Su)) w zz) (fun _ _ _ ⟨zz, a, b⟩ he => ⟨zz, a, b.flz he⟩), Fct.obj 4 (fun v w => ∃ zz, v = (fl zz 0) ∧ OwnR (([] : List Su)) (([] : List Su)) w zz) (fun _ _ _ ⟨zz, a, b⟩ he => ⟨zz, a, b.flz he⟩), Fct.obj 5 (fun v w => ∃ zz, v = (fl zz 1) ∧ OwnR (([] : List Su)) (([] : List Su)) w zz) (fun _ _ _ ⟨zz, a, b⟩ he => ⟨zz, a, b.flz he⟩), Fct.val Flz 6 (.int .i64 0), Fct.obj 7 (fun v w => ∃ zz, v = (fl zz 0) ∧ OwnR (([] : List Su)) (([] : List Su)) w zz) (fun _ _ _ ⟨zz, a, b⟩ he => ⟨zz, a, b.flz he⟩), Fct.obj 8 (fun v w => ∃ zz, v = (fl zz 1) ∧ OwnR (([] : List Su)) (([] : List Su)) w zz) (fun _ _ _ ⟨zz, a, b⟩ he => ⟨zz, a, b.flz he⟩), Fct.val Flz 9 (.int .i64 0)] (fun w' => Below u7.heap.size u7 w') _ 10 0 chkSet9 (by kernel_rfl) (by kernel_rfl) (by kernel_rfl) (by decide) (Below.refl _ _) ?_ ?_
  ·refine lt_s (lt_s (lt_s (lt_s (lt_s (lt_s (lt_s (lt_s (lt_s (lt_s (lt_0) ?_) ?_) ?_) ?_) ?_) ?_) ?_) ?_) ?_) ?_
   ·intro f w1 hS hf aA hA
    have r8 := pO 8 hA (by kernel_rfl) z8
    exact fV rfl rfl _ (ex_loadR 28 (.tmp 8) rfl ⟨b6_7, 0, none⟩ r8 (fun _ => by kernel_rfl) [.int .u64 (s : Int), v6_5] (by kernel_rfl) ((HX_b6_7.out.keepB hS).part [.int .u64 (s : Int), v6_5] 0 (fun j u hu => by rw [Nat.zero_add]; exact hu))) hS uS
   ·intro f w1 hS hf aA hA
    have r7 := pO 7 hA (by kernel_rfl) z7
    exact fV rfl rfl _ (ex_move (.tmp 7) rfl r7) hS uS
   ·intro f w1 hS hf aA hA
    have r34 := pA 34 0 hA sbSet9 (by kernel_rfl) zsz rfl (hf 0 (by decide))
    have r35 := pA 35 1 hA sbSet9 (by kernel_rfl) zsz rfl (hf 1 (by decide))
    exact fC rfl rfl 13 #[(.tmp 34), (.tmp 35)] _ rfl #[.agg #[.int .u64 (s : Int), v6_5], v5_1] (mp2 r34 r35) (fun w => by kernel_rfl) _ (ownR_t (([] : List Su)) (([] : List Su)) s _ (tabP s m (srt ((la).map fewS))) _ (srt ((la).map fewS)) (List.replicate m zC, [], []) (own_self s m _) (self_ok HGM.out _) rfl rfl w1 HSD.out (HL.out.keep (HB.out.trans (hS.mono HB.out.size)) HSZ.out) (tabP_small 1000000 (Nat.le_trans HM4.out (by decide))) (len_few _ 1000 (Nat.le_trans HLA.out (by decide))) (HU6_5.out.keep hS) (HU5_1.out.keep hS) (tabP_good HGM.out) (good_few _ (Nat.le_trans HLA.out (by decide)))) hS (fun _ _ ⟨zz, a, b⟩ => ⟨zz, uS.trans a, b⟩)
   ·intro f w1 hS hf aA hA
    obtain ⟨x36, hx36, hr36⟩ := hf 2 (by decide)
    have e36 := pA 36 2 hA sbSet9 (by kernel_rfl) zsz rfl hx36
    exact flw_val rfl rfl (.tuple #[(fl x36 0), (fl x36 1), .int .i64 0]) (ex_move (.tmp 36) rfl e36) hS (Flz.refl _) ⟨x36, uS, hr36⟩
   ·intro f w1 hS hf aA hA
    obtain ⟨x33, hx33, hr33⟩ := hf 3 (by decide)
    have e33 := pA 33 3 hA sbSet9 (by kernel_rfl) zsz rfl hx33
    exact flw_val rfl rfl ((fl x33 0)) (ex_extract (.tmp 33) 0 rfl e33 rfl) hS (Flz.refl _) ⟨x33, uS, hr33⟩
   ·intro f w1 hS hf aA hA
    obtain ⟨x33, hx33, hr33⟩ := hf 3 (by decide)
    have e33 := pA 33 3 hA sbSet9 (by kernel_rfl) zsz rfl hx33
    exact flw_val rfl rfl ((fl x33 1)) (ex_extract (.tmp 33) 1 rfl e33 rfl) hS (Flz.refl _) ⟨x33, uS, hr33⟩
   ·intro f w1 hS hf aA hA
    obtain ⟨x33, hx33, hr33⟩ := hf 3 (by decide)
    have e33 := pA 33 3 hA sbSet9 (by kernel_rfl) zsz rfl hx33
    exact fV rfl rfl _ (ex_extract (.tmp 33) 2 rfl e33 rfl) hS uS
   ·intro f w1 hS hf aA hA
    obtain ⟨x37, hx37, hr37⟩ := hf 4 (by decide)
    have e37 := pA 37 4 hA sbSet9 (by kernel_rfl) zsz rfl hx37
    exact flw_val rfl rfl ((fl x37 0)) (ex_assign (.tmp 37) rfl e37) hS (Flz.refl _) ⟨x37, uS, hr37⟩
   ·intro f w1 hS hf aA hA
    obtain ⟨x38, hx38, hr38⟩ := hf 5 (by decide)
    have e38 := pA 38 5 hA sbSet9 (by kernel_rfl) zsz rfl hx38
    exact flw_val rfl rfl ((fl x38 1)) (ex_assign (.tmp 38) rfl e38) hS (Flz.refl _) ⟨x38, uS, hr38⟩
   ·intro f w1 hS hf aA hA
    have r39 := pA 39 6 hA sbSet9 (by kernel_rfl) zsz rfl (hf 6 (by decide))
    exact fV rfl rfl _ (ex_assign (.tmp 39) rfl r39) hS uS
  intro f u9 hS hf hap
  have h0 : f 0 = .agg #[.int .u64 (s : Int), v6_5] := hf 0 (by decide)
  have h1 : f 1 = v5_1 := hf 1 (by decide)
  obtain ⟨v9_2, h2, -⟩ := hf 2 (by decide)
  obtain ⟨v9_3, h3, -⟩ := hf 3 (by decide)
  obtain ⟨v9_4, h4, -⟩ := hf 4 (by decide)
  obtain ⟨v9_5, h5, -⟩ := hf 5 (by decide)
  have h6 : f 6 = .int .i64 0 := hf 6 (by decide)
  obtain ⟨v9_7, h7, hu7⟩ := hf 7 (by decide)
  have HU9_7 := Lib.hid hu7
  clear hu7
  obtain ⟨v9_8, h8, hu8⟩ := hf 8 (by decide)
  have HU9_8 := Lib.hid hu8
  clear hu8
  have h9 : f 9 = .int .i64 0 := hf 9 (by decide)
  clear hf hap
  clear zsz z8 z7
  subst ha0
  simp only [slotsSet9, putAll, h0, h1, h2, h3, h4, h5, h6, h7, h8, h9, Act.put, List.setIfInBounds_toArray, List.set_cons_zero, List.set_cons_succ]
  clear h0 h1 h2 h3 h4 h5 h6 h7 h8 h9
  refine tl_nil ?_
  replace HU5_1 := Lib.hid (HU5_1.out.keep hS)
  replace HX_b6_7 := Lib.hid (HX_b6_7.out.keepB hS)
  replace HU6_5 := Lib.hid (HU6_5.out.keep hS)
  replace HB := Lib.hid (HB.out.trans (hS.mono HB.out.size))
  clear hS
  go_upto_region 10 with fail
  refine wp_act (fun a0 ha0 => ?_)
  have zsz : a0.tmps.size = 52 := by rw [ha0]; rfl
  have z12 : a0.eval (.tmp 12) = .int .i64 0 := by rw [ha0]; rfl
  have z10 : a0.eval (.tmp 10) = (fl v9_7 0) := by rw [ha0]; rfl
  have z11 : a0.eval (.tmp 11) = (fl v9_8 1) := by rw [ha0]; rfl
  refine wrO [] slotsSet10 waitSet10 [Fct.val Flz 0 (.int .i64 0), Fct.val Flz 1 (.bool true), Fct.val Flz 2 (.bool true), Fct.val Flz 3 ((fl v9_7 0)), Fct.val Flz 4 (.int .i64 0), Fct.val Flz 5 (.bool true), Fct.val Flz 6 (.bool true), Fct.val Flz 7 (.bool true), Fct.val Flz 8 ((fl v9_8 1)), Fct.val Flz 9 (.int .i64 0), Fct.val Flz 10 (.bool true), Fct.val Flz 11 (.bool true)] (fun w' => Below u9.heap.size u9 w') _ 12 1 chkSet10 (by kernel_rfl) (by kernel_rfl) (by kernel_rfl) (by decide) (Below.refl _ _) ?_ ?_
  ·refine lt_s (lt_s (lt_s (lt_s (lt_s (lt_s (lt_s (lt_s (lt_s (lt_s (lt_s (lt_s (lt_0) ?_) ?_) ?_) ?_) ?_) ?_) ?_) ?_) ?_) ?_) ?_) ?_
   ·intro f w1 hS hf aA hA
    have r12 := pO 12 hA (by kernel_rfl) z12
    exact fV rfl rfl _ (ex_move (.tmp 12) rfl r12) hS uS
   ·intro f w1 hS hf aA hA
    have r40 := pA 40 0 hA sbSet10 (by kernel_rfl) zsz rfl (hf 0 (by decide))
    exact fV rfl rfl _ (Eq.trans (ex_int .eql _ _ (.tmp 40) _ rfl .i64 0 0 r40 rfl (.bool ((0 : Int) == (0 : Int))) (fun _ => rfl)) (by rw [(by decide : ((0 : Int) == (0 : Int)) = true)])) hS uS
   ·intro f w1 hS hf aA hA
    have r41 := pA 41 1 hA sbSet10 (by kernel_rfl) zsz rfl (hf 1 (by decide))
    exact fV rfl rfl _ (ex_move (.tmp 41) rfl r41) hS uS
   ·intro f w1 hS hf aA hA
    have t42 := pG 42 2 hA sbSet10 (by kernel_rfl) zsz rfl (hf 2 (by decide))
    have r10 := pO 10 hA (by kernel_rfl) z10
    exact fV rfl ((wanted_of rfl 42 rfl t42).trans rfl) _ (ex_move (.tmp 10) rfl r10) hS uS
   ·intro f w1 hS hf aA hA
    have t42 := pG 42 2 hA sbSet10 (by kernel_rfl) zsz rfl (hf 2 (by decide))
    have r43 := pA 43 3 hA sbSet10 (by kernel_rfl) zsz rfl (hf 3 (by decide))
    obtain ⟨q9, c9, hv9, _⟩ := (HU9_7.out.p.keep hS)
    exact fV rfl ((wanted_of rfl 42 rfl t42).trans rfl) _ (Eq.trans (ex_len 24 42 (.tmp 43) rfl (by kernel_rfl) q9 (([] : List Su)).length c9 (r43.trans hv9)) (by rw [show (((([] : List Su)).length : Nat) : Int) = 0 from rfl])) hS uS
   ·intro f w1 hS hf aA hA
    have t42 := pG 42 2 hA sbSet10 (by kernel_rfl) zsz rfl (hf 2 (by decide))
    have r44 := pA 44 4 hA sbSet10 (by kernel_rfl) zsz rfl (hf 4 (by decide))
    exact fV rfl ((wanted_of rfl 42 rfl t42).trans rfl) _ (Eq.trans (ex_int .eql _ _ (.tmp 44) _ rfl .i64 0 0 r44 rfl (.bool ((0 : Int) == (0 : Int))) (fun _ => rfl)) (by rw [(by decide : ((0 : Int) == (0 : Int)) = true)])) hS uS
   ·intro f w1 hS hf aA hA
    have r42 := pA 42 2 hA sbSet10 (by kernel_rfl) zsz rfl (hf 2 (by decide))
    have r45 := pA 45 5 hA sbSet10 (by kernel_rfl) zsz rfl (hf 5 (by decide))
    exact fV rfl rfl (.bool true) (ex_pick (.tmp 42) (.tmp 45) _ rfl true r42 ((if_pos rfl).trans r45)) hS uS
   ·intro f w1 hS hf aA hA
    have r46 := pA 46 6 hA sbSet10 (by kernel_rfl) zsz rfl (hf 6 (by decide))
    exact fV rfl rfl _ (ex_move (.tmp 46) rfl r46) hS uS
   ·intro f w1 hS hf aA hA
    have t47 := pG 47 7 hA sbSet10 (by kernel_rfl) zsz rfl (hf 7 (by decide))
    have r11 := pO 11 hA (by kernel_rfl) z11
    exact fV rfl ((wanted_of rfl 47 rfl t47).trans rfl) _ (ex_move (.tmp 11) rfl r11) hS uS
   ·intro f w1 hS hf aA hA
    have t47 := pG 47 7 hA sbSet10 (by kernel_rfl) zsz rfl (hf 7 (by decide))
    have r48 := pA 48 8 hA sbSet10 (by kernel_rfl) zsz rfl (hf 8 (by decide))
    obtain ⟨q9, c9, hv9, _⟩ := (HU9_8.out.m.keep hS)
    exact fV rfl ((wanted_of rfl 47 rfl t47).trans rfl) _ (Eq.trans (ex_len 24 42 (.tmp 48) rfl (by kernel_rfl) q9 (([] : List Su)).length c9 (r48.trans hv9)) (by rw [show (((([] : List Su)).length : Nat) : Int) = 0 from rfl])) hS uS
   ·intro f w1 hS hf aA hA
    have t47 := pG 47 7 hA sbSet10 (by kernel_rfl) zsz rfl (hf 7 (by decide))
    have r49 := pA 49 9 hA sbSet10 (by kernel_rfl) zsz rfl (hf 9 (by decide))
    exact fV rfl ((wanted_of rfl 47 rfl t47).trans rfl) _ (Eq.trans (ex_int .eql _ _ (.tmp 49) _ rfl .i64 0 0 r49 rfl (.bool ((0 : Int) == (0 : Int))) (fun _ => rfl)) (by rw [(by decide : ((0 : Int) == (0 : Int)) = true)])) hS uS
   ·intro f w1 hS hf aA hA
    have r47 := pA 47 7 hA sbSet10 (by kernel_rfl) zsz rfl (hf 7 (by decide))
    have r50 := pA 50 10 hA sbSet10 (by kernel_rfl) zsz rfl (hf 10 (by decide))
    exact fV rfl rfl (.bool true) (ex_pick (.tmp 47) (.tmp 50) _ rfl true r47 ((if_pos rfl).trans r50)) hS uS
  intro f u10 hS hf hap
  have h0 : f 0 = .int .i64 0 := hf 0 (by decide)
  have h1 : f 1 = .bool true := hf 1 (by decide)
  have h2 : f 2 = .bool true := hf 2 (by decide)
  have h3 : f 3 = (fl v9_7 0) := hf 3 (by decide)
  have h4 : f 4 = .int .i64 0 := hf 4 (by decide)
  have h5 : f 5 = .bool true := hf 5 (by decide)
  have h6 : f 6 = .bool true := hf 6 (by decide)
  have h7 : f 7 = .bool true := hf 7 (by decide)
  have h8 : f 8 = (fl v9_8 1) := hf 8 (by decide)
  have h9 : f 9 = .int .i64 0 := hf 9 (by decide)
  have h10 : f 10 = .bool true := hf 10 (by decide)
  have h11 : f 11 = .bool true := hf 11 (by decide)
  clear hf hap
  clear zsz z12 z10 z11
  subst ha0
  simp only [slotsSet10, putAll, h0, h1, h2, h3, h4, h5, h6, h7, h8, h9, h10, h11, Act.put, List.setIfInBounds_toArray, List.set_cons_zero, List.set_cons_succ]
  clear h0 h1 h2 h3 h4 h5 h6 h7 h8 h9 h10 h11
  have hBS := HB.out.trans (hS.mono HB.out.size)
  replace HU5_1 := Lib.hid (HU5_1.out.keep hS)
  replace HX_b6_7 := Lib.hid (HX_b6_7.out.keepB hS)
  replace HU6_5 := Lib.hid (HU6_5.out.keep hS)
  replace HU9_7 := Lib.hid (HU9_7.out.keep hS)
  replace HU9_8 := Lib.hid (HU9_8.out.keep hS)
  clear hS
  refine tl_pure rfl (by kernel_rfl) (.bool true) (ex_assign (.tmp 51) rfl rfl) ?_
  try simp only [Act.put, List.setIfInBounds_toArray, List.set_cons_zero, List.set_cons_succ]
  refine tl_nil ?_
  replace HB := Lib.hid hBS
  clear hBS
  go_wp2_with fail
  go_ret
  exact ⟨rfl, HB.out⟩
theorem peelSelf_law (s : Nat) (n : Int) (la : List Int) (qa : Option Addr) (ca : Nat) (w : World) (hs : s < 18446744073709551616) (hL : Laid w) (ha : Sees w w.heap.size qa (la.map fun n => Value.int .i64 n)) : Calls Tryd.prog 7 #[.int .u64 (s : Int), .int .i64 n, .slice qa la.length ca] w fun e w' => e = .returned (.bool true) ∧ Below w.heap.size w w' := peelSelf_b s n la qa ca w w (Below.refl _ _) hs hL ha
end Go.Proofs.YtnkcehmgagpadaaDoor
