/- The law PlaceParts: it answers true. Conditions: the sums' tables and the table of trailing noughts are laid; a seed of 64 bits. -/
import Derived.Test.YtbkddcafalhflaaDoorPlg
namespace Go.Proofs.YtbkddcafalhflaaDoor
open Go.RowKit
theorem add_p {p : Nat} (h : p ≤ 1000) {T : TypeId} (w : World) : (binOp .add T (.int .i64 (3 * (p : Int))) (.int .i64 3)).run Tryd.prog w = .ok (.int .i64 (3 * (p : Int) + 3)) w := by
  have e : IntKind.i64.wrap (3 * (p : Int) + 3) = 3 * (p : Int) + 3 := by rw [IntKind.wrap_i64]; omega
  show Result.ok (Value.int .i64 (IntKind.i64.wrap (3 * (p : Int) + 3))) w = _
  rw [e]
def waitPpt1 (i : Nat) : List Nat := ([[], [0]] : List (List Nat)).getD i []
def slotsPpt1 : List (Nat × Nat) := [(9, 0), (10, 1)]
theorem sbPpt1 : slotsB slotsPpt1 = true := by kernel_rfl
theorem chkPpt1 : flwO slotsPpt1 waitPpt1 2 (regOf Tryd.f5.body 1) = true := by kernel_rfl
def waitPpt3a (i : Nat) : List Nat := ([[], [0], [1], [2], [3], [3], [3], [3], [3, 7]] : List (List Nat)).getD i []
def slotsPpt3a : List (Nat × Nat) := [(11, 0), (12, 1), (13, 2), (14, 3), (15, 4), (16, 5), (17, 6), (18, 7), (19, 8)]
theorem sbPpt3a : slotsB slotsPpt3a = true := by kernel_rfl
theorem chkPpt3a : flwO slotsPpt3a waitPpt3a 9 (regOf Tryd.f5.body 3) = true := by kernel_rfl
def waitPpt3b (i : Nat) : List Nat := ([[], [0], [1], [2], [3], [3, 4], [3, 5], [3, 6], [3, 7]] : List (List Nat)).getD i []
def slotsPpt3b : List (Nat × Nat) := [(11, 0), (12, 1), (13, 2), (14, 3), (15, 4), (16, 5), (17, 6), (18, 7), (19, 8)]
theorem sbPpt3b : slotsB slotsPpt3b = true := by kernel_rfl
theorem chkPpt3b : flwO slotsPpt3b waitPpt3b 9 (regOf Tryd.f5.body 3) = true := by kernel_rfl
def waitPpt3c (i : Nat) : List Nat := ([[], [0], [1], [2], [3], [3, 4], [3, 5], [3, 6], [3, 7]] : List (List Nat)).getD i []
def slotsPpt3c : List (Nat × Nat) := [(11, 0), (12, 1), (13, 2), (14, 3), (15, 4), (16, 5), (17, 6), (18, 7), (19, 8)]
theorem sbPpt3c : slotsB slotsPpt3c = true := by kernel_rfl
theorem chkPpt3c : flwO slotsPpt3c waitPpt3c 9 (regOf Tryd.f5.body 3) = true := by kernel_rfl
def waitPpt5 (i : Nat) : List Nat := ([[], [], [], [0, 1, 2], [], [], [5], [], [4, 6, 7], [3], [8]] : List (List Nat)).getD i []
def slotsPpt5 : List (Nat × Nat) := [(20, 0), (21, 1), (22, 2), (23, 3), (24, 4), (25, 5), (26, 6), (27, 7), (28, 8), (7, 9), (8, 10)]
theorem sbPpt5 : slotsB slotsPpt5 = true := by kernel_rfl
theorem chkPpt5 : flwB slotsPpt5 waitPpt5 11 (regOf Tryd.f5.body 5) = true := by kernel_rfl
def waitPpt6 (i : Nat) : List Nat := ([[], [0], [1], [2], [3], [3, 4], [3, 5], [3, 6]] : List (List Nat)).getD i []
def slotsPpt6 : List (Nat × Nat) := [(29, 0), (30, 1), (31, 2), (32, 3), (33, 4), (34, 5), (35, 6), (36, 7)]
theorem sbPpt6 : slotsB slotsPpt6 = true := by kernel_rfl
theorem chkPpt6 : flwO slotsPpt6 waitPpt6 8 (regOf Tryd.f5.body 6) = true := by kernel_rfl
def waitPpt8 (i : Nat) : List Nat := ([[], [0], [1], [], [3], [4], [2, 5], [6], [7], [7, 8], [7, 9], [7], [7, 11], [7, 12], [7, 10, 13], [7, 14], [15], [16], [16, 17], [16, 18], [16], [16, 20], [16, 21], [16, 19, 22], [16, 23], [24], [25], [25, 26], [25, 27], [25], [25, 29], [25, 30], [25, 28, 31], [25, 32], [33], [34], [34, 35], [34, 36], [34], [34, 37, 38], [34, 39], [40], [41], [41, 42], [41, 43], [41], [41, 45], [41, 44, 46], [41, 47], [48], [49], [49, 50], [49, 51], [49, 52], [49, 53], [54], [55], [55, 56], [55, 57], [55, 58], [59], [60], [60, 61], [60, 62], [60, 63], [64]] : List (List Nat)).getD i []
def slotsPpt8 : List (Nat × Nat) := [(37, 0), (38, 1), (39, 2), (40, 3), (41, 4), (42, 5), (43, 6), (44, 7), (45, 8), (46, 9), (47, 10), (48, 11), (49, 12), (50, 13), (51, 14), (52, 15), (53, 16), (54, 17), (55, 18), (56, 19), (57, 20), (58, 21), (59, 22), (60, 23), (61, 24), (62, 25), (63, 26), (64, 27), (65, 28), (66, 29), (67, 30), (68, 31), (69, 32), (70, 33), (71, 34), (72, 35), (73, 36), (74, 37), (75, 38), (76, 39), (77, 40), (78, 41), (79, 42), (80, 43), (81, 44), (82, 45), (83, 46), (84, 47), (85, 48), (86, 49), (87, 50), (88, 51), (89, 52), (90, 53), (91, 54), (92, 55), (93, 56), (94, 57), (95, 58), (96, 59), (97, 60), (98, 61), (99, 62), (100, 63), (101, 64), (6, 65)]
theorem sbPpt8 : slotsB slotsPpt8 = true := by kernel_rfl
theorem chkPpt8 : flwB slotsPpt8 waitPpt8 66 (regOf Tryd.f5.body 8) = true := by kernel_rfl
set_option maxHeartbeats 16000000 in
set_option maxRecDepth 100000 in
theorem placeParts_b (s : Nat) (hs : s < 18446744073709551616) (n : Int) (hn : -9223372036854775808 ≤ n ∧ n ≤ 9223372036854775807) (x : Su) (w w0 : World) (hB : Below w.heap.size w w0) (hL : Laid w) (hD : DeB w) : Calls Tryd.prog 5 #[.int .u64 (s : Nat), .int .i64 n, .agg (encU x).toArray] w0 fun e w' => e = .returned (.bool true) ∧ Below w.heap.size w w' := by
  have HL := Lib.hid hL
  have HSZ := Lib.hid hL.size
  have HSD := Lib.hid hs
  have HN := Lib.hid hn
  have HD : Hid (∀ w', Below w.heap.size w w' → DeB w') := Lib.hid (fun _ hb => hD.keep hb hD.1)
  have HB := Lib.hid hB
  clear hL hs hD hB hn
  go_enter Tryd.func5, Tryd.ntmps5
  go_upto_region 0 with fail
  refine wp_region_lit ?_
  try simp only [Act.put, List.setIfInBounds_toArray, List.set_cons_zero, List.set_cons_succ]
  refine lp_step rfl (fun K hK => wp_box_row 27 (.tmp 2) rfl (.agg (encU x).toArray) rfl (hK _ _ ?_))
  try simp only [Act.put, List.setIfInBounds_toArray, List.set_cons_zero, List.set_cons_succ]
  show wpList _ _ _ _ _ (w0.alloc (.cells (encU x).toArray 27))
  have HST : Hid (Below w0.heap.size w0 (w0.alloc (.cells (encU x).toArray 27))) := Lib.hid ((Below.refl _ _).alloc (Nat.le_refl _) _)
  have HX1 : Hid (Has (w0.alloc (.cells (encU x).toArray 27)) w0.heap.size 27 (encU x)) := Lib.hid (Has.made' _ _ _ _ rfl)
  have HGg1 : Hid (w.heap.size ≤ w0.heap.size) := Lib.hid HB.out.size
  replace HB := Lib.hid (HB.out.trans (HST.out.mono HB.out.size))
  clear HST
  generalize w0.alloc (.cells (encU x).toArray 27) = w1 at *
  generalize w0.heap.size = g1 at *
  refine lp_pure rfl (ex_assign _ rfl rfl) ?_
  try simp only [Act.put, List.setIfInBounds_toArray, List.set_cons_zero, List.set_cons_succ]
  refine wpList_nil ?_
  go_upto_region 1 with fail
  refine wp_act (fun a0 ha0 => ?_)
  have zsz : a0.tmps.size = 102 := by rw [ha0]; rfl
  refine wp_region_flwo (E := Flz) [] slotsPpt1 waitPpt1 [Fct.val Flz 0 (.bool true), Fct.val Flz 1 (.bool false)] (fun w' => Below w1.heap.size w1 w') _ 2 0 chkPpt1 (by kernel_rfl) (by kernel_rfl) (by kernel_rfl) (by decide) (Below.refl _ _) ?_ ?_
  · refine lt_s (lt_s (lt_0) ?_) ?_
    · intro f w1 hS hf
      generalize hA : putAll _ _ f = aA
      exact flw_call rfl rfl 6 #[] _ rfl #[] (by kernel_rfl) (fun w => by kernel_rfl) (fun v _ => v = .bool true) (awake14_any w1 (HL.out.keep (HB.out.trans (hS.mono HB.out.size)) HSZ.out)) (fun v w' hr hb => ⟨hS.trans (hb.mono hS.size), Flz.of hb, (updF_self _ _ _).trans hr⟩)
    · intro f w1 hS hf
      generalize hA : putAll _ _ f = aA
      have h9 : f 0 = .bool true := hf 0 (by decide)
      have r9 : aA.eval (.tmp 9) = .bool true := by rw [← hA]; exact putAll_at f 9 0 slotsPpt1 a0 sbPpt1 (by kernel_rfl) zsz rfl h9
      exact flw_val rfl rfl (.bool false) (ex_not _ (.tmp 9) rfl r9) hS (Flz.refl _) (updF_self _ _ _)
  intro f u1 hS hf hap
  have h0 : f 0 = .bool true := hf 0 (by decide)
  have h1 : f 1 = .bool false := hf 1 (by decide)
  clear hf hap
  clear zsz
  subst ha0
  simp only [slotsPpt1, putAll, h0, h1, Act.put, List.setIfInBounds_toArray, List.set_cons_zero, List.set_cons_succ]
  clear h0 h1
  refine tl_nil ?_
  replace HX1 := Lib.hid (HX1.out.keepB hS)
  replace HB := Lib.hid (HB.out.trans (hS.mono HB.out.size))
  clear hS
  by_cases hg : goodN n = true
  case neg =>
    have HG : Hid (goodN n = false) := Lib.hid (by simpa using hg)
    clear hg
    go_upto_region 3 with fail
    refine wp_act (fun a0 ha0 => ?_)
    have zsz : a0.tmps.size = 102 := by rw [ha0]; rfl
    have z1 : a0.eval (.tmp 1) = .int .i64 n := by rw [ha0]; rfl
    refine wp_region_flwo (E := Flz) [] slotsPpt3a waitPpt3a [Fct.val Flz 0 (.int .i64 n), Fct.val Flz 1 (.bool false), Fct.val Flz 2 (.bool true), Fct.val Flz 3 (.bool true), Fct.val Flz 4 (undef), Fct.val Flz 5 (undef), Fct.val Flz 6 (undef), Fct.val Flz 7 (undef), Fct.val Flz 8 (.bool true)] (fun w' => Below u1.heap.size u1 w') _ 9 0 chkPpt3a (by kernel_rfl) (by kernel_rfl) (by kernel_rfl) (by decide) (Below.refl _ _) ?_ ?_
    · refine lt_s (lt_s (lt_s (lt_s (lt_s (lt_s (lt_s (lt_s (lt_s (lt_0) ?_) ?_) ?_) ?_) ?_) ?_) ?_) ?_) ?_
      · intro f w1 hS hf
        generalize hA : putAll _ _ f = aA
        have r1 : aA.eval (.tmp 1) = .int .i64 n := by rw [← hA]; exact putAll_off f 1 slotsPpt3a a0 (by kernel_rfl) z1
        exact flw_val rfl rfl (.int .i64 n) (ex_move (.tmp 1) rfl r1) hS (Flz.refl _) (updF_self _ _ _)
      · intro f w1 hS hf
        generalize hA : putAll _ _ f = aA
        have h11 : f 0 = .int .i64 n := hf 0 (by decide)
        have r11 : aA.eval (.tmp 11) = .int .i64 n := by rw [← hA]; exact putAll_at f 11 0 slotsPpt3a a0 sbPpt3a (by kernel_rfl) zsz rfl h11
        exact flw_call rfl rfl 7 #[(.tmp 11)] _ rfl #[.int .i64 n] (by simp only [List.map_toArray, List.map_cons, List.map_nil, r11]) (fun w => by kernel_rfl) (fun v _ => v = .bool false) (as_any (good14_any n w1) (congrArg Value.bool HG.out)) (fun v w' hr hb => ⟨hS.trans (hb.mono hS.size), Flz.of hb, (updF_self _ _ _).trans hr⟩)
      · intro f w1 hS hf
        generalize hA : putAll _ _ f = aA
        have h12 : f 1 = .bool false := hf 1 (by decide)
        have r12 : aA.eval (.tmp 12) = .bool false := by rw [← hA]; exact putAll_at f 12 1 slotsPpt3a a0 sbPpt3a (by kernel_rfl) zsz rfl h12
        exact flw_val rfl rfl (.bool true) (ex_not _ (.tmp 12) rfl r12) hS (Flz.refl _) (updF_self _ _ _)
      · intro f w1 hS hf
        generalize hA : putAll _ _ f = aA
        have h13 : f 2 = .bool true := hf 2 (by decide)
        have r13 : aA.eval (.tmp 13) = .bool true := by rw [← hA]; exact putAll_at f 13 2 slotsPpt3a a0 sbPpt3a (by kernel_rfl) zsz rfl h13
        exact flw_val rfl rfl (.bool true) (ex_move (.tmp 13) rfl r13) hS (Flz.refl _) (updF_self _ _ _)
      · intro f w1 hS hf
        generalize hA : putAll _ _ f = aA
        have g14 : f 3 = .bool true := hf 3 (by decide)
        have t14 : aA.tmps[14]? = some (.bool true) := by rw [← hA]; exact putAll_g f 14 3 slotsPpt3a a0 sbPpt3a (by kernel_rfl) zsz rfl g14
        exact flw_skip rfl ((wanted_of rfl 14 rfl t14).trans rfl) hS (Flz.refl _) (updF_self _ _ _)
      · intro f w1 hS hf
        generalize hA : putAll _ _ f = aA
        have g14 : f 3 = .bool true := hf 3 (by decide)
        have t14 : aA.tmps[14]? = some (.bool true) := by rw [← hA]; exact putAll_g f 14 3 slotsPpt3a a0 sbPpt3a (by kernel_rfl) zsz rfl g14
        exact flw_skip rfl ((wanted_of rfl 14 rfl t14).trans rfl) hS (Flz.refl _) (updF_self _ _ _)
      · intro f w1 hS hf
        generalize hA : putAll _ _ f = aA
        have g14 : f 3 = .bool true := hf 3 (by decide)
        have t14 : aA.tmps[14]? = some (.bool true) := by rw [← hA]; exact putAll_g f 14 3 slotsPpt3a a0 sbPpt3a (by kernel_rfl) zsz rfl g14
        exact flw_skip rfl ((wanted_of rfl 14 rfl t14).trans rfl) hS (Flz.refl _) (updF_self _ _ _)
      · intro f w1 hS hf
        generalize hA : putAll _ _ f = aA
        have g14 : f 3 = .bool true := hf 3 (by decide)
        have t14 : aA.tmps[14]? = some (.bool true) := by rw [← hA]; exact putAll_g f 14 3 slotsPpt3a a0 sbPpt3a (by kernel_rfl) zsz rfl g14
        exact flw_skip rfl ((wanted_of rfl 14 rfl t14).trans rfl) hS (Flz.refl _) (updF_self _ _ _)
      · intro f w1 hS hf
        generalize hA : putAll _ _ f = aA
        have h14 : f 3 = .bool true := hf 3 (by decide)
        have r14 : aA.eval (.tmp 14) = .bool true := by rw [← hA]; exact putAll_at f 14 3 slotsPpt3a a0 sbPpt3a (by kernel_rfl) zsz rfl h14
        exact flw_val rfl rfl (.bool true) (ex_pick (.tmp 14) _ (.tmp 18) rfl true r14 ((if_pos rfl).trans rfl)) hS (Flz.refl _) (updF_self _ _ _)
    intro f u3 hS hf hap
    have h0 : f 0 = .int .i64 n := hf 0 (by decide)
    have h1 : f 1 = .bool false := hf 1 (by decide)
    have h2 : f 2 = .bool true := hf 2 (by decide)
    have h3 : f 3 = .bool true := hf 3 (by decide)
    have h4 : f 4 = undef := hf 4 (by decide)
    have h5 : f 5 = undef := hf 5 (by decide)
    have h6 : f 6 = undef := hf 6 (by decide)
    have h7 : f 7 = undef := hf 7 (by decide)
    have h8 : f 8 = .bool true := hf 8 (by decide)
    clear hf hap
    clear zsz z1
    subst ha0
    simp only [slotsPpt3a, putAll, h0, h1, h2, h3, h4, h5, h6, h7, h8, Act.put, List.setIfInBounds_toArray, List.set_cons_zero, List.set_cons_succ]
    clear h0 h1 h2 h3 h4 h5 h6 h7 h8
    refine tl_nil ?_
    replace HX1 := Lib.hid (HX1.out.keepB hS)
    replace HB := Lib.hid (HB.out.trans (hS.mono HB.out.size))
    clear hS
    go_wp2_with fail
    go_ret
    exact ⟨rfl, HB.out⟩
  have HG := Lib.hid hg
  clear hg
  obtain ⟨p, hp1, hp2, rfl⟩ := good_part HG.out
  by_cases hg2 : goodN (3 * (p : Int) + 3) = true
  case neg =>
    have HG2 : Hid (goodN (3 * (p : Int) + 3) = false) := Lib.hid (by simpa using hg2)
    clear hg2
    go_upto_region 3 with fail
    refine wp_act (fun a0 ha0 => ?_)
    have zsz : a0.tmps.size = 102 := by rw [ha0]; rfl
    have z1 : a0.eval (.tmp 1) = .int .i64 (3 * (p : Int)) := by rw [ha0]; rfl
    refine wp_region_flwo (E := Flz) [] slotsPpt3b waitPpt3b [Fct.val Flz 0 (.int .i64 (3 * (p : Int))), Fct.val Flz 1 (.bool true), Fct.val Flz 2 (.bool false), Fct.val Flz 3 (.bool false), Fct.val Flz 4 (.int .i64 (3 * (p : Int))), Fct.val Flz 5 (.int .i64 (3 * (p : Int) + 3)), Fct.val Flz 6 (.bool false), Fct.val Flz 7 (.bool true), Fct.val Flz 8 (.bool true)] (fun w' => Below u1.heap.size u1 w') _ 9 0 chkPpt3b (by kernel_rfl) (by kernel_rfl) (by kernel_rfl) (by decide) (Below.refl _ _) ?_ ?_
    · refine lt_s (lt_s (lt_s (lt_s (lt_s (lt_s (lt_s (lt_s (lt_s (lt_0) ?_) ?_) ?_) ?_) ?_) ?_) ?_) ?_) ?_
      · intro f w1 hS hf
        generalize hA : putAll _ _ f = aA
        have r1 : aA.eval (.tmp 1) = .int .i64 (3 * (p : Int)) := by rw [← hA]; exact putAll_off f 1 slotsPpt3b a0 (by kernel_rfl) z1
        exact flw_val rfl rfl (.int .i64 (3 * (p : Int))) (ex_move (.tmp 1) rfl r1) hS (Flz.refl _) (updF_self _ _ _)
      · intro f w1 hS hf
        generalize hA : putAll _ _ f = aA
        have h11 : f 0 = .int .i64 (3 * (p : Int)) := hf 0 (by decide)
        have r11 : aA.eval (.tmp 11) = .int .i64 (3 * (p : Int)) := by rw [← hA]; exact putAll_at f 11 0 slotsPpt3b a0 sbPpt3b (by kernel_rfl) zsz rfl h11
        exact flw_call rfl rfl 7 #[(.tmp 11)] _ rfl #[.int .i64 (3 * (p : Int))] (by simp only [List.map_toArray, List.map_cons, List.map_nil, r11]) (fun w => by kernel_rfl) (fun v _ => v = .bool true) (as_any (good14_any (3 * (p : Int)) w1) (congrArg Value.bool HG.out)) (fun v w' hr hb => ⟨hS.trans (hb.mono hS.size), Flz.of hb, (updF_self _ _ _).trans hr⟩)
      · intro f w1 hS hf
        generalize hA : putAll _ _ f = aA
        have h12 : f 1 = .bool true := hf 1 (by decide)
        have r12 : aA.eval (.tmp 12) = .bool true := by rw [← hA]; exact putAll_at f 12 1 slotsPpt3b a0 sbPpt3b (by kernel_rfl) zsz rfl h12
        exact flw_val rfl rfl (.bool false) (ex_not _ (.tmp 12) rfl r12) hS (Flz.refl _) (updF_self _ _ _)
      · intro f w1 hS hf
        generalize hA : putAll _ _ f = aA
        have h13 : f 2 = .bool false := hf 2 (by decide)
        have r13 : aA.eval (.tmp 13) = .bool false := by rw [← hA]; exact putAll_at f 13 2 slotsPpt3b a0 sbPpt3b (by kernel_rfl) zsz rfl h13
        exact flw_val rfl rfl (.bool false) (ex_move (.tmp 13) rfl r13) hS (Flz.refl _) (updF_self _ _ _)
      · intro f w1 hS hf
        generalize hA : putAll _ _ f = aA
        have g14 : f 3 = .bool false := hf 3 (by decide)
        have t14 : aA.tmps[14]? = some (.bool false) := by rw [← hA]; exact putAll_g f 14 3 slotsPpt3b a0 sbPpt3b (by kernel_rfl) zsz rfl g14
        have r1 : aA.eval (.tmp 1) = .int .i64 (3 * (p : Int)) := by rw [← hA]; exact putAll_off f 1 slotsPpt3b a0 (by kernel_rfl) z1
        exact flw_val rfl ((wanted_of rfl 14 rfl t14).trans rfl) (.int .i64 (3 * (p : Int))) (ex_move (.tmp 1) rfl r1) hS (Flz.refl _) (updF_self _ _ _)
      · intro f w1 hS hf
        generalize hA : putAll _ _ f = aA
        have g14 : f 3 = .bool false := hf 3 (by decide)
        have t14 : aA.tmps[14]? = some (.bool false) := by rw [← hA]; exact putAll_g f 14 3 slotsPpt3b a0 sbPpt3b (by kernel_rfl) zsz rfl g14
        have h15 : f 4 = .int .i64 (3 * (p : Int)) := hf 4 (by decide)
        have r15 : aA.eval (.tmp 15) = .int .i64 (3 * (p : Int)) := by rw [← hA]; exact putAll_at f 15 4 slotsPpt3b a0 sbPpt3b (by kernel_rfl) zsz rfl h15
        exact flw_val rfl ((wanted_of rfl 14 rfl t14).trans rfl) (.int .i64 (3 * (p : Int) + 3)) (ex_int .add _ _ (.tmp 15) _ rfl .i64 (3 * (p : Int)) 3 r15 rfl (.int .i64 (3 * (p : Int) + 3)) (add_p (by omega))) hS (Flz.refl _) (updF_self _ _ _)
      · intro f w1 hS hf
        generalize hA : putAll _ _ f = aA
        have g14 : f 3 = .bool false := hf 3 (by decide)
        have t14 : aA.tmps[14]? = some (.bool false) := by rw [← hA]; exact putAll_g f 14 3 slotsPpt3b a0 sbPpt3b (by kernel_rfl) zsz rfl g14
        have h16 : f 5 = .int .i64 (3 * (p : Int) + 3) := hf 5 (by decide)
        have r16 : aA.eval (.tmp 16) = .int .i64 (3 * (p : Int) + 3) := by rw [← hA]; exact putAll_at f 16 5 slotsPpt3b a0 sbPpt3b (by kernel_rfl) zsz rfl h16
        exact flw_call rfl ((wanted_of rfl 14 rfl t14).trans rfl) 7 #[(.tmp 16)] _ rfl #[.int .i64 (3 * (p : Int) + 3)] (by simp only [List.map_toArray, List.map_cons, List.map_nil, r16]) (fun w => by kernel_rfl) (fun v _ => v = .bool false) (as_any (good14_any (3 * (p : Int) + 3) w1) (congrArg Value.bool HG2.out)) (fun v w' hr hb => ⟨hS.trans (hb.mono hS.size), Flz.of hb, (updF_self _ _ _).trans hr⟩)
      · intro f w1 hS hf
        generalize hA : putAll _ _ f = aA
        have g14 : f 3 = .bool false := hf 3 (by decide)
        have t14 : aA.tmps[14]? = some (.bool false) := by rw [← hA]; exact putAll_g f 14 3 slotsPpt3b a0 sbPpt3b (by kernel_rfl) zsz rfl g14
        have h17 : f 6 = .bool false := hf 6 (by decide)
        have r17 : aA.eval (.tmp 17) = .bool false := by rw [← hA]; exact putAll_at f 17 6 slotsPpt3b a0 sbPpt3b (by kernel_rfl) zsz rfl h17
        exact flw_val rfl ((wanted_of rfl 14 rfl t14).trans rfl) (.bool true) (ex_not _ (.tmp 17) rfl r17) hS (Flz.refl _) (updF_self _ _ _)
      · intro f w1 hS hf
        generalize hA : putAll _ _ f = aA
        have h14 : f 3 = .bool false := hf 3 (by decide)
        have r14 : aA.eval (.tmp 14) = .bool false := by rw [← hA]; exact putAll_at f 14 3 slotsPpt3b a0 sbPpt3b (by kernel_rfl) zsz rfl h14
        have h18 : f 7 = .bool true := hf 7 (by decide)
        have r18 : aA.eval (.tmp 18) = .bool true := by rw [← hA]; exact putAll_at f 18 7 slotsPpt3b a0 sbPpt3b (by kernel_rfl) zsz rfl h18
        exact flw_val rfl rfl (.bool true) (ex_pick (.tmp 14) _ (.tmp 18) rfl false r14 ((if_neg (by decide)).trans r18)) hS (Flz.refl _) (updF_self _ _ _)
    intro f u3 hS hf hap
    have h0 : f 0 = .int .i64 (3 * (p : Int)) := hf 0 (by decide)
    have h1 : f 1 = .bool true := hf 1 (by decide)
    have h2 : f 2 = .bool false := hf 2 (by decide)
    have h3 : f 3 = .bool false := hf 3 (by decide)
    have h4 : f 4 = .int .i64 (3 * (p : Int)) := hf 4 (by decide)
    have h5 : f 5 = .int .i64 (3 * (p : Int) + 3) := hf 5 (by decide)
    have h6 : f 6 = .bool false := hf 6 (by decide)
    have h7 : f 7 = .bool true := hf 7 (by decide)
    have h8 : f 8 = .bool true := hf 8 (by decide)
    clear hf hap
    clear zsz z1
    subst ha0
    simp only [slotsPpt3b, putAll, h0, h1, h2, h3, h4, h5, h6, h7, h8, Act.put, List.setIfInBounds_toArray, List.set_cons_zero, List.set_cons_succ]
    clear h0 h1 h2 h3 h4 h5 h6 h7 h8
    refine tl_nil ?_
    replace HX1 := Lib.hid (HX1.out.keepB hS)
    replace HB := Lib.hid (HB.out.trans (hS.mono HB.out.size))
    clear hS
    go_wp2_with fail
    go_ret
    exact ⟨rfl, HB.out⟩
  have HG2 := Lib.hid hg2
  clear hg2
  go_upto_region 3 with fail
  refine wp_act (fun a0 ha0 => ?_)
  have zsz : a0.tmps.size = 102 := by rw [ha0]; rfl
  have z1 : a0.eval (.tmp 1) = .int .i64 (3 * (p : Int)) := by rw [ha0]; rfl
  refine wp_region_flwo (E := Flz) [] slotsPpt3c waitPpt3c [Fct.val Flz 0 (.int .i64 (3 * (p : Int))), Fct.val Flz 1 (.bool true), Fct.val Flz 2 (.bool false), Fct.val Flz 3 (.bool false), Fct.val Flz 4 (.int .i64 (3 * (p : Int))), Fct.val Flz 5 (.int .i64 (3 * (p : Int) + 3)), Fct.val Flz 6 (.bool true), Fct.val Flz 7 (.bool false), Fct.val Flz 8 (.bool false)] (fun w' => Below u1.heap.size u1 w') _ 9 0 chkPpt3c (by kernel_rfl) (by kernel_rfl) (by kernel_rfl) (by decide) (Below.refl _ _) ?_ ?_
  · refine lt_s (lt_s (lt_s (lt_s (lt_s (lt_s (lt_s (lt_s (lt_s (lt_0) ?_) ?_) ?_) ?_) ?_) ?_) ?_) ?_) ?_
    · intro f w1 hS hf
      generalize hA : putAll _ _ f = aA
      have r1 : aA.eval (.tmp 1) = .int .i64 (3 * (p : Int)) := by rw [← hA]; exact putAll_off f 1 slotsPpt3c a0 (by kernel_rfl) z1
      exact flw_val rfl rfl (.int .i64 (3 * (p : Int))) (ex_move (.tmp 1) rfl r1) hS (Flz.refl _) (updF_self _ _ _)
    · intro f w1 hS hf
      generalize hA : putAll _ _ f = aA
      have h11 : f 0 = .int .i64 (3 * (p : Int)) := hf 0 (by decide)
      have r11 : aA.eval (.tmp 11) = .int .i64 (3 * (p : Int)) := by rw [← hA]; exact putAll_at f 11 0 slotsPpt3c a0 sbPpt3c (by kernel_rfl) zsz rfl h11
      exact flw_call rfl rfl 7 #[(.tmp 11)] _ rfl #[.int .i64 (3 * (p : Int))] (by simp only [List.map_toArray, List.map_cons, List.map_nil, r11]) (fun w => by kernel_rfl) (fun v _ => v = .bool true) (as_any (good14_any (3 * (p : Int)) w1) (congrArg Value.bool HG.out)) (fun v w' hr hb => ⟨hS.trans (hb.mono hS.size), Flz.of hb, (updF_self _ _ _).trans hr⟩)
    · intro f w1 hS hf
      generalize hA : putAll _ _ f = aA
      have h12 : f 1 = .bool true := hf 1 (by decide)
      have r12 : aA.eval (.tmp 12) = .bool true := by rw [← hA]; exact putAll_at f 12 1 slotsPpt3c a0 sbPpt3c (by kernel_rfl) zsz rfl h12
      exact flw_val rfl rfl (.bool false) (ex_not _ (.tmp 12) rfl r12) hS (Flz.refl _) (updF_self _ _ _)
    · intro f w1 hS hf
      generalize hA : putAll _ _ f = aA
      have h13 : f 2 = .bool false := hf 2 (by decide)
      have r13 : aA.eval (.tmp 13) = .bool false := by rw [← hA]; exact putAll_at f 13 2 slotsPpt3c a0 sbPpt3c (by kernel_rfl) zsz rfl h13
      exact flw_val rfl rfl (.bool false) (ex_move (.tmp 13) rfl r13) hS (Flz.refl _) (updF_self _ _ _)
    · intro f w1 hS hf
      generalize hA : putAll _ _ f = aA
      have g14 : f 3 = .bool false := hf 3 (by decide)
      have t14 : aA.tmps[14]? = some (.bool false) := by rw [← hA]; exact putAll_g f 14 3 slotsPpt3c a0 sbPpt3c (by kernel_rfl) zsz rfl g14
      have r1 : aA.eval (.tmp 1) = .int .i64 (3 * (p : Int)) := by rw [← hA]; exact putAll_off f 1 slotsPpt3c a0 (by kernel_rfl) z1
      exact flw_val rfl ((wanted_of rfl 14 rfl t14).trans rfl) (.int .i64 (3 * (p : Int))) (ex_move (.tmp 1) rfl r1) hS (Flz.refl _) (updF_self _ _ _)
    · intro f w1 hS hf
      generalize hA : putAll _ _ f = aA
      have g14 : f 3 = .bool false := hf 3 (by decide)
      have t14 : aA.tmps[14]? = some (.bool false) := by rw [← hA]; exact putAll_g f 14 3 slotsPpt3c a0 sbPpt3c (by kernel_rfl) zsz rfl g14
      have h15 : f 4 = .int .i64 (3 * (p : Int)) := hf 4 (by decide)
      have r15 : aA.eval (.tmp 15) = .int .i64 (3 * (p : Int)) := by rw [← hA]; exact putAll_at f 15 4 slotsPpt3c a0 sbPpt3c (by kernel_rfl) zsz rfl h15
      exact flw_val rfl ((wanted_of rfl 14 rfl t14).trans rfl) (.int .i64 (3 * (p : Int) + 3)) (ex_int .add _ _ (.tmp 15) _ rfl .i64 (3 * (p : Int)) 3 r15 rfl (.int .i64 (3 * (p : Int) + 3)) (add_p (by omega))) hS (Flz.refl _) (updF_self _ _ _)
    · intro f w1 hS hf
      generalize hA : putAll _ _ f = aA
      have g14 : f 3 = .bool false := hf 3 (by decide)
      have t14 : aA.tmps[14]? = some (.bool false) := by rw [← hA]; exact putAll_g f 14 3 slotsPpt3c a0 sbPpt3c (by kernel_rfl) zsz rfl g14
      have h16 : f 5 = .int .i64 (3 * (p : Int) + 3) := hf 5 (by decide)
      have r16 : aA.eval (.tmp 16) = .int .i64 (3 * (p : Int) + 3) := by rw [← hA]; exact putAll_at f 16 5 slotsPpt3c a0 sbPpt3c (by kernel_rfl) zsz rfl h16
      exact flw_call rfl ((wanted_of rfl 14 rfl t14).trans rfl) 7 #[(.tmp 16)] _ rfl #[.int .i64 (3 * (p : Int) + 3)] (by simp only [List.map_toArray, List.map_cons, List.map_nil, r16]) (fun w => by kernel_rfl) (fun v _ => v = .bool true) (as_any (good14_any (3 * (p : Int) + 3) w1) (congrArg Value.bool HG2.out)) (fun v w' hr hb => ⟨hS.trans (hb.mono hS.size), Flz.of hb, (updF_self _ _ _).trans hr⟩)
    · intro f w1 hS hf
      generalize hA : putAll _ _ f = aA
      have g14 : f 3 = .bool false := hf 3 (by decide)
      have t14 : aA.tmps[14]? = some (.bool false) := by rw [← hA]; exact putAll_g f 14 3 slotsPpt3c a0 sbPpt3c (by kernel_rfl) zsz rfl g14
      have h17 : f 6 = .bool true := hf 6 (by decide)
      have r17 : aA.eval (.tmp 17) = .bool true := by rw [← hA]; exact putAll_at f 17 6 slotsPpt3c a0 sbPpt3c (by kernel_rfl) zsz rfl h17
      exact flw_val rfl ((wanted_of rfl 14 rfl t14).trans rfl) (.bool false) (ex_not _ (.tmp 17) rfl r17) hS (Flz.refl _) (updF_self _ _ _)
    · intro f w1 hS hf
      generalize hA : putAll _ _ f = aA
      have h14 : f 3 = .bool false := hf 3 (by decide)
      have r14 : aA.eval (.tmp 14) = .bool false := by rw [← hA]; exact putAll_at f 14 3 slotsPpt3c a0 sbPpt3c (by kernel_rfl) zsz rfl h14
      have h18 : f 7 = .bool false := hf 7 (by decide)
      have r18 : aA.eval (.tmp 18) = .bool false := by rw [← hA]; exact putAll_at f 18 7 slotsPpt3c a0 sbPpt3c (by kernel_rfl) zsz rfl h18
      exact flw_val rfl rfl (.bool false) (ex_pick (.tmp 14) _ (.tmp 18) rfl false r14 ((if_neg (by decide)).trans r18)) hS (Flz.refl _) (updF_self _ _ _)
  intro f u3 hS hf hap
  have h0 : f 0 = .int .i64 (3 * (p : Int)) := hf 0 (by decide)
  have h1 : f 1 = .bool true := hf 1 (by decide)
  have h2 : f 2 = .bool false := hf 2 (by decide)
  have h3 : f 3 = .bool false := hf 3 (by decide)
  have h4 : f 4 = .int .i64 (3 * (p : Int)) := hf 4 (by decide)
  have h5 : f 5 = .int .i64 (3 * (p : Int) + 3) := hf 5 (by decide)
  have h6 : f 6 = .bool true := hf 6 (by decide)
  have h7 : f 7 = .bool false := hf 7 (by decide)
  have h8 : f 8 = .bool false := hf 8 (by decide)
  clear hf hap
  clear zsz z1
  subst ha0
  simp only [slotsPpt3c, putAll, h0, h1, h2, h3, h4, h5, h6, h7, h8, Act.put, List.setIfInBounds_toArray, List.set_cons_zero, List.set_cons_succ]
  clear h0 h1 h2 h3 h4 h5 h6 h7 h8
  refine tl_nil ?_
  replace HX1 := Lib.hid (HX1.out.keepB hS)
  replace HB := Lib.hid (HB.out.trans (hS.mono HB.out.size))
  clear hS
  go_upto_region 5 with fail
  have HST : Hid (Below u3.heap.size u3 u3.drew) := Lib.hid (Below.refl _ _).drew
  replace HX1 := Lib.hid (HX1.out.keepB HST.out)
  replace HB := Lib.hid (HB.out.trans (HST.out.mono HB.out.size))
  clear HST
  refine wp_act (fun a0 ha0 => ?_)
  have zsz : a0.tmps.size = 102 := by rw [ha0]; rfl
  have z0 : a0.eval (.tmp 0) = .int .u64 ((s : Int)) := by rw [ha0]; rfl
  have z1 : a0.eval (.tmp 1) = .int .i64 (3 * (p : Int)) := by rw [ha0]; rfl
  have z5 : a0.eval (.tmp 5) = .pointer (some ⟨g1, 0, none⟩) := by rw [ha0]; rfl
  refine wp_region_flw (E := Flz) [] slotsPpt5 waitPpt5 [Fct.val Flz 0 (.int .u64 ((s : Int))), Fct.val Flz 1 (.int .i64 (3 * (p : Int))), Fct.val Flz 2 (.agg (encU x).toArray), Fct.obj 3 (fun v w => Ins w v (places s (3 * (p : Int)) x)) (fun _ _ _ h he => h.flzE he), Fct.val Flz 4 (.int .u64 ((s : Int))), Fct.val Flz 5 (.int .i64 (3 * (p : Int))), Fct.val Flz 6 (.int .i64 (3 * (p : Int) + 3)), Fct.val Flz 7 (.agg (encU x).toArray), Fct.obj 8 (fun v w => Ins w v (places s (3 * (p : Int) + 3) x)) (fun _ _ _ h he => h.flzE he), (⟨([9, 3], fun f _ => f 9 = f 3), fun f f' _ _ h _ hd => (show f' 9 = f' 3 by rw [hd 9 (by simp), hd 3 (by simp)]; exact h)⟩ : Fct Flz), (⟨([10, 8], fun f _ => f 10 = f 8), fun f f' _ _ h _ hd => (show f' 10 = f' 8 by rw [hd 10 (by simp), hd 8 (by simp)]; exact h)⟩ : Fct Flz)] (fun w' => Below u3.drew.heap.size u3.drew w') _ 11 0 chkPpt5 (by kernel_rfl) (by kernel_rfl) (by kernel_rfl) (by kernel_rfl) (by decide) (Below.refl _ _) ?_ ?_
  · refine lt_s (lt_s (lt_s (lt_s (lt_s (lt_s (lt_s (lt_s (lt_s (lt_s (lt_s (lt_0) ?_) ?_) ?_) ?_) ?_) ?_) ?_) ?_) ?_) ?_) ?_
    · intro f w1 hS hf
      generalize hA : putAll _ _ f = aA
      have r0 : aA.eval (.tmp 0) = .int .u64 ((s : Int)) := by rw [← hA]; exact putAll_off f 0 slotsPpt5 a0 (by kernel_rfl) z0
      exact flw_val rfl rfl (.int .u64 ((s : Int))) (ex_move (.tmp 0) rfl r0) hS (Flz.refl _) (updF_self _ _ _)
    · intro f w1 hS hf
      generalize hA : putAll _ _ f = aA
      have r1 : aA.eval (.tmp 1) = .int .i64 (3 * (p : Int)) := by rw [← hA]; exact putAll_off f 1 slotsPpt5 a0 (by kernel_rfl) z1
      exact flw_val rfl rfl (.int .i64 (3 * (p : Int))) (ex_move (.tmp 1) rfl r1) hS (Flz.refl _) (updF_self _ _ _)
    · intro f w1 hS hf
      generalize hA : putAll _ _ f = aA
      have r5 : aA.eval (.tmp 5) = .pointer (some ⟨g1, 0, none⟩) := by rw [← hA]; exact putAll_off f 5 slotsPpt5 a0 (by kernel_rfl) z5
      exact flw_val rfl rfl (.agg (encU x).toArray) (ex_loadR 27 (.tmp 5) rfl ⟨g1, 0, none⟩ r5 (fun _ => by kernel_rfl) (encU x) (by rw [encU_len]; kernel_rfl) ((HX1.out.keepB hS).part (encU x) 0 (encU_all' x))) hS (Flz.refl _) (updF_self _ _ _)
    · intro f w1 hS hf
      generalize hA : putAll _ _ f = aA
      have h20 : f 0 = .int .u64 ((s : Int)) := hf 0 (by decide)
      have r20 : aA.eval (.tmp 20) = .int .u64 ((s : Int)) := by rw [← hA]; exact putAll_at f 20 0 slotsPpt5 a0 sbPpt5 (by kernel_rfl) zsz rfl h20
      have h21 : f 1 = .int .i64 (3 * (p : Int)) := hf 1 (by decide)
      have r21 : aA.eval (.tmp 21) = .int .i64 (3 * (p : Int)) := by rw [← hA]; exact putAll_at f 21 1 slotsPpt5 a0 sbPpt5 (by kernel_rfl) zsz rfl h21
      have h22 : f 2 = .agg (encU x).toArray := hf 2 (by decide)
      have r22 : aA.eval (.tmp 22) = .agg (encU x).toArray := by rw [← hA]; exact putAll_at f 22 2 slotsPpt5 a0 sbPpt5 (by kernel_rfl) zsz rfl h22
      exact flw_call rfl rfl 8 #[(.tmp 20), (.tmp 21), (.tmp 22)] _ rfl #[.int .u64 ((s : Int)), .int .i64 (3 * (p : Int)), .agg (encU x).toArray] (by simp only [List.map_toArray, List.map_cons, List.map_nil, r20, r21, r22]) (fun w => by kernel_rfl) (fun v w' => Ins w' v (places s (3 * (p : Int)) x)) (placeOf_any s HSD.out (3 * (p : Int)) x w1 (HL.out.keep (HB.out.trans (hS.mono HB.out.size)) HSZ.out)) (fun v w' hr hb => ⟨hS.trans (hb.mono hS.size), Flz.of hb, (show Ins w' (updF f 3 v 3) (places s (3 * (p : Int)) x) by rw [updF_self]; exact hr)⟩)
    · intro f w1 hS hf
      generalize hA : putAll _ _ f = aA
      have r0 : aA.eval (.tmp 0) = .int .u64 ((s : Int)) := by rw [← hA]; exact putAll_off f 0 slotsPpt5 a0 (by kernel_rfl) z0
      exact flw_val rfl rfl (.int .u64 ((s : Int))) (ex_move (.tmp 0) rfl r0) hS (Flz.refl _) (updF_self _ _ _)
    · intro f w1 hS hf
      generalize hA : putAll _ _ f = aA
      have r1 : aA.eval (.tmp 1) = .int .i64 (3 * (p : Int)) := by rw [← hA]; exact putAll_off f 1 slotsPpt5 a0 (by kernel_rfl) z1
      exact flw_val rfl rfl (.int .i64 (3 * (p : Int))) (ex_move (.tmp 1) rfl r1) hS (Flz.refl _) (updF_self _ _ _)
    · intro f w1 hS hf
      generalize hA : putAll _ _ f = aA
      have h25 : f 5 = .int .i64 (3 * (p : Int)) := hf 5 (by decide)
      have r25 : aA.eval (.tmp 25) = .int .i64 (3 * (p : Int)) := by rw [← hA]; exact putAll_at f 25 5 slotsPpt5 a0 sbPpt5 (by kernel_rfl) zsz rfl h25
      exact flw_val rfl rfl (.int .i64 (3 * (p : Int) + 3)) (ex_int .add _ _ (.tmp 25) _ rfl .i64 (3 * (p : Int)) 3 r25 rfl (.int .i64 (3 * (p : Int) + 3)) (add_p (by omega))) hS (Flz.refl _) (updF_self _ _ _)
    · intro f w1 hS hf
      generalize hA : putAll _ _ f = aA
      have r5 : aA.eval (.tmp 5) = .pointer (some ⟨g1, 0, none⟩) := by rw [← hA]; exact putAll_off f 5 slotsPpt5 a0 (by kernel_rfl) z5
      exact flw_val rfl rfl (.agg (encU x).toArray) (ex_loadR 27 (.tmp 5) rfl ⟨g1, 0, none⟩ r5 (fun _ => by kernel_rfl) (encU x) (by rw [encU_len]; kernel_rfl) ((HX1.out.keepB hS).part (encU x) 0 (encU_all' x))) hS (Flz.refl _) (updF_self _ _ _)
    · intro f w1 hS hf
      generalize hA : putAll _ _ f = aA
      have h24 : f 4 = .int .u64 ((s : Int)) := hf 4 (by decide)
      have r24 : aA.eval (.tmp 24) = .int .u64 ((s : Int)) := by rw [← hA]; exact putAll_at f 24 4 slotsPpt5 a0 sbPpt5 (by kernel_rfl) zsz rfl h24
      have h26 : f 6 = .int .i64 (3 * (p : Int) + 3) := hf 6 (by decide)
      have r26 : aA.eval (.tmp 26) = .int .i64 (3 * (p : Int) + 3) := by rw [← hA]; exact putAll_at f 26 6 slotsPpt5 a0 sbPpt5 (by kernel_rfl) zsz rfl h26
      have h27 : f 7 = .agg (encU x).toArray := hf 7 (by decide)
      have r27 : aA.eval (.tmp 27) = .agg (encU x).toArray := by rw [← hA]; exact putAll_at f 27 7 slotsPpt5 a0 sbPpt5 (by kernel_rfl) zsz rfl h27
      exact flw_call rfl rfl 8 #[(.tmp 24), (.tmp 26), (.tmp 27)] _ rfl #[.int .u64 ((s : Int)), .int .i64 (3 * (p : Int) + 3), .agg (encU x).toArray] (by simp only [List.map_toArray, List.map_cons, List.map_nil, r24, r26, r27]) (fun w => by kernel_rfl) (fun v w' => Ins w' v (places s (3 * (p : Int) + 3) x)) (placeOf_any s HSD.out (3 * (p : Int) + 3) x w1 (HL.out.keep (HB.out.trans (hS.mono HB.out.size)) HSZ.out)) (fun v w' hr hb => ⟨hS.trans (hb.mono hS.size), Flz.of hb, (show Ins w' (updF f 8 v 8) (places s (3 * (p : Int) + 3) x) by rw [updF_self]; exact hr)⟩)
    · intro f w1 hS hf
      generalize hA : putAll _ _ f = aA
      have hu3 : Ins w1 (f 3) (places s (3 * (p : Int)) x) := (hf 3 (by decide))
      have e23 : aA.eval (.tmp 23) = f 3 := by rw [← hA]; exact putAll_at f 23 3 slotsPpt5 a0 sbPpt5 (by kernel_rfl) zsz rfl rfl
      exact flw_val rfl rfl (f 3) (ex_assign (.tmp 23) rfl e23) hS (Flz.refl _) (show updF f 9 (f 3) 9 = updF f 9 (f 3) 3 by rw [updF_self, updF_ne f _ (by decide)])
    · intro f w1 hS hf
      generalize hA : putAll _ _ f = aA
      have hu8 : Ins w1 (f 8) (places s (3 * (p : Int) + 3) x) := (hf 8 (by decide))
      have e28 : aA.eval (.tmp 28) = f 8 := by rw [← hA]; exact putAll_at f 28 8 slotsPpt5 a0 sbPpt5 (by kernel_rfl) zsz rfl rfl
      exact flw_val rfl rfl (f 8) (ex_assign (.tmp 28) rfl e28) hS (Flz.refl _) (show updF f 10 (f 8) 10 = updF f 10 (f 8) 8 by rw [updF_self, updF_ne f _ (by decide)])
  intro f u5 hS hf hap
  have h0 : f 0 = .int .u64 ((s : Int)) := hf 0 (by decide)
  have h1 : f 1 = .int .i64 (3 * (p : Int)) := hf 1 (by decide)
  have h2 : f 2 = .agg (encU x).toArray := hf 2 (by decide)
  obtain ⟨v5_3, h3, hu3⟩ : ∃ v, f 3 = v ∧ Ins u5 v (places s (3 * (p : Int)) x) := ⟨_, rfl, (hf 3 (by decide))⟩
  have HU5_3 := Lib.hid hu3
  clear hu3
  have h4 : f 4 = .int .u64 ((s : Int)) := hf 4 (by decide)
  have h5 : f 5 = .int .i64 (3 * (p : Int)) := hf 5 (by decide)
  have h6 : f 6 = .int .i64 (3 * (p : Int) + 3) := hf 6 (by decide)
  have h7 : f 7 = .agg (encU x).toArray := hf 7 (by decide)
  obtain ⟨v5_8, h8, hu8⟩ : ∃ v, f 8 = v ∧ Ins u5 v (places s (3 * (p : Int) + 3) x) := ⟨_, rfl, (hf 8 (by decide))⟩
  have HU5_8 := Lib.hid hu8
  clear hu8
  have h9 : f 9 = v5_3 := Eq.trans (hf 9 (by decide)) h3
  have h10 : f 10 = v5_8 := Eq.trans (hf 10 (by decide)) h8
  clear hf hap
  clear zsz z0 z1 z5
  subst ha0
  simp only [slotsPpt5, putAll, h0, h1, h2, h3, h4, h5, h6, h7, h8, h9, h10, Act.put, List.setIfInBounds_toArray, List.set_cons_zero, List.set_cons_succ]
  clear h0 h1 h2 h3 h4 h5 h6 h7 h8 h9 h10
  refine tl_nilN ?_
  replace HX1 := Lib.hid (HX1.out.keepB hS)
  replace HB := Lib.hid (HB.out.trans (hS.mono HB.out.size))
  clear hS
  obtain ⟨qa, ca, hqa, hsa⟩ := HU5_3.out
  obtain ⟨qb, cb, hqb, hsb⟩ := HU5_8.out
  rw [places_len HG.out] at hqa
  rw [places_len HG2.out] at hqb
  subst hqa hqb
  clear HU5_3 HU5_8
  have HSA := Lib.hid hsa
  have HSB := Lib.hid hsb
  clear hsa hsb
  go_upto_region 6 with fail
  refine wp_act (fun a0 ha0 => ?_)
  have zsz : a0.tmps.size = 102 := by rw [ha0]; rfl
  have z7 : a0.eval (.tmp 7) = .slice qa 3 ca := by rw [ha0]; rfl
  have z8 : a0.eval (.tmp 8) = .slice qb 3 cb := by rw [ha0]; rfl
  refine wp_region_flwo (E := Flz) [] slotsPpt6 waitPpt6 [Fct.val Flz 0 (.slice qa 3 ca), Fct.val Flz 1 (.int .i64 ((3 : Int))), Fct.val Flz 2 (.bool false), Fct.val Flz 3 (.bool false), Fct.val Flz 4 (.slice qb 3 cb), Fct.val Flz 5 (.int .i64 ((3 : Int))), Fct.val Flz 6 (.bool false), Fct.val Flz 7 (.bool false)] (fun w' => Below u5.heap.size u5 w') _ 8 0 chkPpt6 (by kernel_rfl) (by kernel_rfl) (by kernel_rfl) (by decide) (Below.refl _ _) ?_ ?_
  · refine lt_s (lt_s (lt_s (lt_s (lt_s (lt_s (lt_s (lt_s (lt_0) ?_) ?_) ?_) ?_) ?_) ?_) ?_) ?_
    · intro f w1 hS hf
      generalize hA : putAll _ _ f = aA
      have r7 : aA.eval (.tmp 7) = .slice qa 3 ca := by rw [← hA]; exact putAll_off f 7 slotsPpt6 a0 (by kernel_rfl) z7
      exact flw_val rfl rfl (.slice qa 3 ca) (ex_move (.tmp 7) rfl r7) hS (Flz.refl _) (updF_self _ _ _)
    · intro f w1 hS hf
      generalize hA : putAll _ _ f = aA
      have h29 : f 0 = .slice qa 3 ca := hf 0 (by decide)
      have r29 : aA.eval (.tmp 29) = .slice qa 3 ca := by rw [← hA]; exact putAll_at f 29 0 slotsPpt6 a0 sbPpt6 (by kernel_rfl) zsz rfl h29
      exact flw_val rfl rfl (.int .i64 ((3 : Int))) (ex_len 23 3 (.tmp 29) rfl (by kernel_rfl) qa 3 ca r29) hS (Flz.refl _) (updF_self _ _ _)
    · intro f w1 hS hf
      generalize hA : putAll _ _ f = aA
      have h30 : f 1 = .int .i64 ((3 : Int)) := hf 1 (by decide)
      have r30 : aA.eval (.tmp 30) = .int .i64 ((3 : Int)) := by rw [← hA]; exact putAll_at f 30 1 slotsPpt6 a0 sbPpt6 (by kernel_rfl) zsz rfl h30
      exact flw_val rfl rfl (.bool false) (Eq.trans (ex_int .neq _ _ (.tmp 30) _ rfl .i64 ((3 : Int)) 3 r30 rfl (.bool (((3 : Int)) != (3 : Int))) (fun _ => rfl)) (by rw [(show ((3 : Int) != (3 : Int)) = false by decide)])) hS (Flz.refl _) (updF_self _ _ _)
    · intro f w1 hS hf
      generalize hA : putAll _ _ f = aA
      have h31 : f 2 = .bool false := hf 2 (by decide)
      have r31 : aA.eval (.tmp 31) = .bool false := by rw [← hA]; exact putAll_at f 31 2 slotsPpt6 a0 sbPpt6 (by kernel_rfl) zsz rfl h31
      exact flw_val rfl rfl (.bool false) (ex_move (.tmp 31) rfl r31) hS (Flz.refl _) (updF_self _ _ _)
    · intro f w1 hS hf
      generalize hA : putAll _ _ f = aA
      have g32 : f 3 = .bool false := hf 3 (by decide)
      have t32 : aA.tmps[32]? = some (.bool false) := by rw [← hA]; exact putAll_g f 32 3 slotsPpt6 a0 sbPpt6 (by kernel_rfl) zsz rfl g32
      have r8 : aA.eval (.tmp 8) = .slice qb 3 cb := by rw [← hA]; exact putAll_off f 8 slotsPpt6 a0 (by kernel_rfl) z8
      exact flw_val rfl ((wanted_of rfl 32 rfl t32).trans rfl) (.slice qb 3 cb) (ex_move (.tmp 8) rfl r8) hS (Flz.refl _) (updF_self _ _ _)
    · intro f w1 hS hf
      generalize hA : putAll _ _ f = aA
      have g32 : f 3 = .bool false := hf 3 (by decide)
      have t32 : aA.tmps[32]? = some (.bool false) := by rw [← hA]; exact putAll_g f 32 3 slotsPpt6 a0 sbPpt6 (by kernel_rfl) zsz rfl g32
      have h33 : f 4 = .slice qb 3 cb := hf 4 (by decide)
      have r33 : aA.eval (.tmp 33) = .slice qb 3 cb := by rw [← hA]; exact putAll_at f 33 4 slotsPpt6 a0 sbPpt6 (by kernel_rfl) zsz rfl h33
      exact flw_val rfl ((wanted_of rfl 32 rfl t32).trans rfl) (.int .i64 ((3 : Int))) (ex_len 23 3 (.tmp 33) rfl (by kernel_rfl) qb 3 cb r33) hS (Flz.refl _) (updF_self _ _ _)
    · intro f w1 hS hf
      generalize hA : putAll _ _ f = aA
      have g32 : f 3 = .bool false := hf 3 (by decide)
      have t32 : aA.tmps[32]? = some (.bool false) := by rw [← hA]; exact putAll_g f 32 3 slotsPpt6 a0 sbPpt6 (by kernel_rfl) zsz rfl g32
      have h34 : f 5 = .int .i64 ((3 : Int)) := hf 5 (by decide)
      have r34 : aA.eval (.tmp 34) = .int .i64 ((3 : Int)) := by rw [← hA]; exact putAll_at f 34 5 slotsPpt6 a0 sbPpt6 (by kernel_rfl) zsz rfl h34
      exact flw_val rfl ((wanted_of rfl 32 rfl t32).trans rfl) (.bool false) (Eq.trans (ex_int .neq _ _ (.tmp 34) _ rfl .i64 ((3 : Int)) 3 r34 rfl (.bool (((3 : Int)) != (3 : Int))) (fun _ => rfl)) (by rw [(show ((3 : Int) != (3 : Int)) = false by decide)])) hS (Flz.refl _) (updF_self _ _ _)
    · intro f w1 hS hf
      generalize hA : putAll _ _ f = aA
      have h32 : f 3 = .bool false := hf 3 (by decide)
      have r32 : aA.eval (.tmp 32) = .bool false := by rw [← hA]; exact putAll_at f 32 3 slotsPpt6 a0 sbPpt6 (by kernel_rfl) zsz rfl h32
      have h35 : f 6 = .bool false := hf 6 (by decide)
      have r35 : aA.eval (.tmp 35) = .bool false := by rw [← hA]; exact putAll_at f 35 6 slotsPpt6 a0 sbPpt6 (by kernel_rfl) zsz rfl h35
      exact flw_val rfl rfl (.bool false) (ex_pick (.tmp 32) _ (.tmp 35) rfl false r32 ((if_neg (by decide)).trans r35)) hS (Flz.refl _) (updF_self _ _ _)
  intro f u6 hS hf hap
  have h0 : f 0 = .slice qa 3 ca := hf 0 (by decide)
  have h1 : f 1 = .int .i64 ((3 : Int)) := hf 1 (by decide)
  have h2 : f 2 = .bool false := hf 2 (by decide)
  have h3 : f 3 = .bool false := hf 3 (by decide)
  have h4 : f 4 = .slice qb 3 cb := hf 4 (by decide)
  have h5 : f 5 = .int .i64 ((3 : Int)) := hf 5 (by decide)
  have h6 : f 6 = .bool false := hf 6 (by decide)
  have h7 : f 7 = .bool false := hf 7 (by decide)
  clear hf hap
  clear zsz z7 z8
  subst ha0
  simp only [slotsPpt6, putAll, h0, h1, h2, h3, h4, h5, h6, h7, Act.put, List.setIfInBounds_toArray, List.set_cons_zero, List.set_cons_succ]
  clear h0 h1 h2 h3 h4 h5 h6 h7
  refine tl_nil ?_
  replace HX1 := Lib.hid (HX1.out.keepB hS)
  replace HSA := Lib.hid ((HSA.out.keep hS).more hS.size)
  replace HSB := Lib.hid ((HSB.out.keep hS).more hS.size)
  replace HB := Lib.hid (HB.out.trans (hS.mono HB.out.size))
  clear hS
  obtain ⟨pa, rfl, hca⟩ := Ins.cellsE HSA.out (by rw [places_len HG.out]; omega)
  obtain ⟨pb, rfl, hcb⟩ := Ins.cellsE HSB.out (by rw [places_len HG2.out]; omega)
  have hba := place_in s p hp1 x
  have hbb := place_in s (p + 1) (by omega) x
  rw [show (3 * ((p + 1 : Nat) : Int)) = 3 * (p : Int) + 3 by omega] at hbb
  have ea := places_three (s := s) (x := x) HG.out
  have eb := places_three (s := s) (x := x) HG2.out
  have HA0 : Hid (∀ w', Below u6.heap.size u6 w' → w'.cell? (pa.add (0 * 1)) = some (.int .i64 (placeAt s (3 * p) x 0))) := Lib.hid (fun w' hb => (hca w' hb 0 (by simp [ea])).trans (by simp only [ea]; rfl))
  have HA1 : Hid (∀ w', Below u6.heap.size u6 w' → w'.cell? (pa.add (1 * 1)) = some (.int .i64 (placeAt s (3 * p) x 1))) := Lib.hid (fun w' hb => (hca w' hb 1 (by simp [ea])).trans (by simp only [ea]; rfl))
  have HA2 : Hid (∀ w', Below u6.heap.size u6 w' → w'.cell? (pa.add (2 * 1)) = some (.int .i64 (placeAt s (3 * p) x 2))) := Lib.hid (fun w' hb => (hca w' hb 2 (by simp [ea])).trans (by simp only [ea]; rfl))
  have HB0 : Hid (∀ w', Below u6.heap.size u6 w' → w'.cell? (pb.add (0 * 1)) = some (.int .i64 (placeAt s (3 * (p : Int) + 3) x 0))) := Lib.hid (fun w' hb => (hcb w' hb 0 (by simp [eb])).trans (by simp only [eb]; rfl))
  have HB1 : Hid (∀ w', Below u6.heap.size u6 w' → w'.cell? (pb.add (1 * 1)) = some (.int .i64 (placeAt s (3 * (p : Int) + 3) x 1))) := Lib.hid (fun w' hb => (hcb w' hb 1 (by simp [eb])).trans (by simp only [eb]; rfl))
  have HB2 : Hid (∀ w', Below u6.heap.size u6 w' → w'.cell? (pb.add (2 * 1)) = some (.int .i64 (placeAt s (3 * (p : Int) + 3) x 2))) := Lib.hid (fun w' hb => (hcb w' hb 2 (by simp [eb])).trans (by simp only [eb]; rfl))
  have a0 := hba 0
  have a1 := hba 1
  have a2 := hba 2
  have b0 := hbb 0
  have b1 := hbb 1
  have b2 := hbb 2
  clear hca hcb ea eb hba hbb HSA HSB
  generalize placeAt s (3 * p) x 0 = A0 at *
  generalize placeAt s (3 * p) x 1 = A1 at *
  generalize placeAt s (3 * p) x 2 = A2 at *
  generalize placeAt s (3 * (p : Int) + 3) x 0 = B0 at *
  generalize placeAt s (3 * (p : Int) + 3) x 1 = B1 at *
  generalize placeAt s (3 * (p : Int) + 3) x 2 = B2 at *
  have HC : Hid (A0 < A1 ∧ A1 < A2 ∧ B0 < B1 ∧ B1 < B2 ∧ A2 < 3 * (p : Int) ∧ B2 < 3 * (p : Int) + 3 ∧ 0 ≤ A0) := Lib.hid (by
    refine ⟨?_, ?_, ?_, ?_, ?_, ?_, ?_⟩ <;> omega)
  clear a0 a1 a2 b0 b1 b2
  go_upto_region 8 with fail
  have HST : Hid (Below u6.heap.size u6 u6.drew) := Lib.hid (Below.refl _ _).drew
  replace HX1 := Lib.hid (HX1.out.keepB HST.out)
  replace HB := Lib.hid (HB.out.trans (HST.out.mono HB.out.size))
  clear HST
  try simp only [List.append_eq, List.cons_append, List.nil_append]
  refine wp_act (fun a0 ha0 => ?_)
  have zsz : a0.tmps.size = 102 := by rw [ha0]; rfl
  have z7 : a0.eval (.tmp 7) = .slice (some pa) 3 ca := by rw [ha0]; rfl
  have z8 : a0.eval (.tmp 8) = .slice (some pb) 3 cb := by rw [ha0]; rfl
  have z1 : a0.eval (.tmp 1) = .int .i64 (3 * (p : Int)) := by rw [ha0]; rfl
  have z5 : a0.eval (.tmp 5) = .pointer (some ⟨g1, 0, none⟩) := by rw [ha0]; rfl
  refine wp_region_flw (E := Flz) [] slotsPpt8 waitPpt8 [Fct.val Flz 0 (.slice (some pa) 3 ca), Fct.val Flz 1 (.pointer (some (pa.add (0 * 1)))), Fct.val Flz 2 (.int .i64 A0), Fct.val Flz 3 (.slice (some pa) 3 ca), Fct.val Flz 4 (.pointer (some (pa.add (1 * 1)))), Fct.val Flz 5 (.int .i64 A1), Fct.val Flz 6 (.bool true), Fct.val Flz 7 (.bool true), Fct.val Flz 8 (.slice (some pa) 3 ca), Fct.val Flz 9 (.pointer (some (pa.add (1 * 1)))), Fct.val Flz 10 (.int .i64 A1), Fct.val Flz 11 (.slice (some pa) 3 ca), Fct.val Flz 12 (.pointer (some (pa.add (2 * 1)))), Fct.val Flz 13 (.int .i64 A2), Fct.val Flz 14 (.bool true), Fct.val Flz 15 (.bool true), Fct.val Flz 16 (.bool true), Fct.val Flz 17 (.slice (some pb) 3 cb), Fct.val Flz 18 (.pointer (some (pb.add (0 * 1)))), Fct.val Flz 19 (.int .i64 B0), Fct.val Flz 20 (.slice (some pb) 3 cb), Fct.val Flz 21 (.pointer (some (pb.add (1 * 1)))), Fct.val Flz 22 (.int .i64 B1), Fct.val Flz 23 (.bool true), Fct.val Flz 24 (.bool true), Fct.val Flz 25 (.bool true), Fct.val Flz 26 (.slice (some pb) 3 cb), Fct.val Flz 27 (.pointer (some (pb.add (1 * 1)))), Fct.val Flz 28 (.int .i64 B1), Fct.val Flz 29 (.slice (some pb) 3 cb), Fct.val Flz 30 (.pointer (some (pb.add (2 * 1)))), Fct.val Flz 31 (.int .i64 B2), Fct.val Flz 32 (.bool true), Fct.val Flz 33 (.bool true), Fct.val Flz 34 (.bool true), Fct.val Flz 35 (.slice (some pa) 3 ca), Fct.val Flz 36 (.pointer (some (pa.add (2 * 1)))), Fct.val Flz 37 (.int .i64 A2), Fct.val Flz 38 (.int .i64 (3 * (p : Int))), Fct.val Flz 39 (.bool true), Fct.val Flz 40 (.bool true), Fct.val Flz 41 (.bool true), Fct.val Flz 42 (.slice (some pb) 3 cb), Fct.val Flz 43 (.pointer (some (pb.add (2 * 1)))), Fct.val Flz 44 (.int .i64 B2), Fct.val Flz 45 (.int .i64 (3 * (p : Int))), Fct.val Flz 46 (.int .i64 (3 * (p : Int) + 3)), Fct.val Flz 47 (.bool true), Fct.val Flz 48 (.bool true), Fct.val Flz 49 (.bool true), Fct.val Flz 50 (.slice (some pa) 3 ca), Fct.val Flz 51 (.pointer (some (pa.add (0 * 1)))), Fct.val Flz 52 (.int .i64 A0), Fct.val Flz 53 (.bool true), Fct.val Flz 54 (.bool true), Fct.val Flz 55 (.bool true), Fct.val Flz 56 (.agg (encU x).toArray), Fct.val Flz 57 (.int .i64 (((levelN x : Nat) : Int))), Fct.val Flz 58 (.bool true), Fct.val Flz 59 (.bool true), Fct.val Flz 60 (.bool true), Fct.val Flz 61 (.agg (encU x).toArray), Fct.val Flz 62 (.int .i64 (((levelN x : Nat) : Int))), Fct.val Flz 63 (.bool true), Fct.val Flz 64 (.bool true), Fct.val Flz 65 (.bool true)] (fun w' => Below u6.drew.heap.size u6.drew w') _ 66 0 chkPpt8 (by kernel_rfl) (by kernel_rfl) (by kernel_rfl) (by kernel_rfl) (by decide) (Below.refl _ _) ?_ ?_
  · refine lt_s (lt_s (lt_s (lt_s (lt_s (lt_s (lt_s (lt_s (lt_s (lt_s (lt_s (lt_s (lt_s (lt_s (lt_s (lt_s (lt_s (lt_s (lt_s (lt_s (lt_s (lt_s (lt_s (lt_s (lt_s (lt_s (lt_s (lt_s (lt_s (lt_s (lt_s (lt_s (lt_s (lt_s (lt_s (lt_s (lt_s (lt_s (lt_s (lt_s (lt_s (lt_s (lt_s (lt_s (lt_s (lt_s (lt_s (lt_s (lt_s (lt_s (lt_s (lt_s (lt_s (lt_s (lt_s (lt_s (lt_s (lt_s (lt_s (lt_s (lt_s (lt_s (lt_s (lt_s (lt_s (lt_s (lt_0) ?_) ?_) ?_) ?_) ?_) ?_) ?_) ?_) ?_) ?_) ?_) ?_) ?_) ?_) ?_) ?_) ?_) ?_) ?_) ?_) ?_) ?_) ?_) ?_) ?_) ?_) ?_) ?_) ?_) ?_) ?_) ?_) ?_) ?_) ?_) ?_) ?_) ?_) ?_) ?_) ?_) ?_) ?_) ?_) ?_) ?_) ?_) ?_) ?_) ?_) ?_) ?_) ?_) ?_) ?_) ?_) ?_) ?_) ?_) ?_) ?_) ?_) ?_) ?_) ?_) ?_
    · intro f w1 hS hf
      generalize hA : putAll _ _ f = aA
      have r7 : aA.eval (.tmp 7) = .slice (some pa) 3 ca := by rw [← hA]; exact putAll_off f 7 slotsPpt8 a0 (by kernel_rfl) z7
      exact flw_val rfl rfl (.slice (some pa) 3 ca) (ex_move (.tmp 7) rfl r7) hS (Flz.refl _) (updF_self _ _ _)
    · intro f w1 hS hf
      generalize hA : putAll _ _ f = aA
      have h37 : f 0 = .slice (some pa) 3 ca := hf 0 (by decide)
      have r37 : aA.eval (.tmp 37) = .slice (some pa) 3 ca := by rw [← hA]; exact putAll_at f 37 0 slotsPpt8 a0 sbPpt8 (by kernel_rfl) zsz rfl h37
      exact flw_val rfl rfl (.pointer (some (pa.add (0 * 1)))) (ex_indexS 23 3 (.tmp 37) _ rfl pa 3 ca 0 1 (by kernel_rfl) (fun _ => by kernel_rfl) r37 rfl (by decide)) hS (Flz.refl _) (updF_self _ _ _)
    · intro f w1 hS hf
      generalize hA : putAll _ _ f = aA
      have h38 : f 1 = .pointer (some (pa.add (0 * 1))) := hf 1 (by decide)
      have r38 : aA.eval (.tmp 38) = .pointer (some (pa.add (0 * 1))) := by rw [← hA]; exact putAll_at f 38 1 slotsPpt8 a0 sbPpt8 (by kernel_rfl) zsz rfl h38
      exact flw_val rfl rfl (.int .i64 A0) (ex_load1 3 (.tmp 38) rfl (pa.add (0 * 1)) r38 (fun _ => by kernel_rfl) (HA0.out w1 ((Below.refl u6.heap.size u6).drew.trans hS))) hS (Flz.refl _) (updF_self _ _ _)
    · intro f w1 hS hf
      generalize hA : putAll _ _ f = aA
      have r7 : aA.eval (.tmp 7) = .slice (some pa) 3 ca := by rw [← hA]; exact putAll_off f 7 slotsPpt8 a0 (by kernel_rfl) z7
      exact flw_val rfl rfl (.slice (some pa) 3 ca) (ex_move (.tmp 7) rfl r7) hS (Flz.refl _) (updF_self _ _ _)
    · intro f w1 hS hf
      generalize hA : putAll _ _ f = aA
      have h40 : f 3 = .slice (some pa) 3 ca := hf 3 (by decide)
      have r40 : aA.eval (.tmp 40) = .slice (some pa) 3 ca := by rw [← hA]; exact putAll_at f 40 3 slotsPpt8 a0 sbPpt8 (by kernel_rfl) zsz rfl h40
      exact flw_val rfl rfl (.pointer (some (pa.add (1 * 1)))) (ex_indexS 23 3 (.tmp 40) _ rfl pa 3 ca 1 1 (by kernel_rfl) (fun _ => by kernel_rfl) r40 rfl (by decide)) hS (Flz.refl _) (updF_self _ _ _)
    · intro f w1 hS hf
      generalize hA : putAll _ _ f = aA
      have h41 : f 4 = .pointer (some (pa.add (1 * 1))) := hf 4 (by decide)
      have r41 : aA.eval (.tmp 41) = .pointer (some (pa.add (1 * 1))) := by rw [← hA]; exact putAll_at f 41 4 slotsPpt8 a0 sbPpt8 (by kernel_rfl) zsz rfl h41
      exact flw_val rfl rfl (.int .i64 A1) (ex_load1 3 (.tmp 41) rfl (pa.add (1 * 1)) r41 (fun _ => by kernel_rfl) (HA1.out w1 ((Below.refl u6.heap.size u6).drew.trans hS))) hS (Flz.refl _) (updF_self _ _ _)
    · intro f w1 hS hf
      generalize hA : putAll _ _ f = aA
      have h39 : f 2 = .int .i64 A0 := hf 2 (by decide)
      have r39 : aA.eval (.tmp 39) = .int .i64 A0 := by rw [← hA]; exact putAll_at f 39 2 slotsPpt8 a0 sbPpt8 (by kernel_rfl) zsz rfl h39
      have h42 : f 5 = .int .i64 A1 := hf 5 (by decide)
      have r42 : aA.eval (.tmp 42) = .int .i64 A1 := by rw [← hA]; exact putAll_at f 42 5 slotsPpt8 a0 sbPpt8 (by kernel_rfl) zsz rfl h42
      exact flw_val rfl rfl (.bool true) (Eq.trans (ex_int .lss _ _ (.tmp 39) (.tmp 42) rfl .i64 A0 A1 r39 r42 (.bool (decide (A0 < A1))) (fun _ => rfl)) (by rw [(show decide (A0 < A1) = true from decide_eq_true HC.out.1)])) hS (Flz.refl _) (updF_self _ _ _)
    · intro f w1 hS hf
      generalize hA : putAll _ _ f = aA
      have h43 : f 6 = .bool true := hf 6 (by decide)
      have r43 : aA.eval (.tmp 43) = .bool true := by rw [← hA]; exact putAll_at f 43 6 slotsPpt8 a0 sbPpt8 (by kernel_rfl) zsz rfl h43
      exact flw_val rfl rfl (.bool true) (ex_move (.tmp 43) rfl r43) hS (Flz.refl _) (updF_self _ _ _)
    · intro f w1 hS hf
      generalize hA : putAll _ _ f = aA
      have g44 : f 7 = .bool true := hf 7 (by decide)
      have t44 : aA.tmps[44]? = some (.bool true) := by rw [← hA]; exact putAll_g f 44 7 slotsPpt8 a0 sbPpt8 (by kernel_rfl) zsz rfl g44
      have r7 : aA.eval (.tmp 7) = .slice (some pa) 3 ca := by rw [← hA]; exact putAll_off f 7 slotsPpt8 a0 (by kernel_rfl) z7
      exact flw_val rfl ((wanted_of rfl 44 rfl t44).trans rfl) (.slice (some pa) 3 ca) (ex_move (.tmp 7) rfl r7) hS (Flz.refl _) (updF_self _ _ _)
    · intro f w1 hS hf
      generalize hA : putAll _ _ f = aA
      have g44 : f 7 = .bool true := hf 7 (by decide)
      have t44 : aA.tmps[44]? = some (.bool true) := by rw [← hA]; exact putAll_g f 44 7 slotsPpt8 a0 sbPpt8 (by kernel_rfl) zsz rfl g44
      have h45 : f 8 = .slice (some pa) 3 ca := hf 8 (by decide)
      have r45 : aA.eval (.tmp 45) = .slice (some pa) 3 ca := by rw [← hA]; exact putAll_at f 45 8 slotsPpt8 a0 sbPpt8 (by kernel_rfl) zsz rfl h45
      exact flw_val rfl ((wanted_of rfl 44 rfl t44).trans rfl) (.pointer (some (pa.add (1 * 1)))) (ex_indexS 23 3 (.tmp 45) _ rfl pa 3 ca 1 1 (by kernel_rfl) (fun _ => by kernel_rfl) r45 rfl (by decide)) hS (Flz.refl _) (updF_self _ _ _)
    · intro f w1 hS hf
      generalize hA : putAll _ _ f = aA
      have g44 : f 7 = .bool true := hf 7 (by decide)
      have t44 : aA.tmps[44]? = some (.bool true) := by rw [← hA]; exact putAll_g f 44 7 slotsPpt8 a0 sbPpt8 (by kernel_rfl) zsz rfl g44
      have h46 : f 9 = .pointer (some (pa.add (1 * 1))) := hf 9 (by decide)
      have r46 : aA.eval (.tmp 46) = .pointer (some (pa.add (1 * 1))) := by rw [← hA]; exact putAll_at f 46 9 slotsPpt8 a0 sbPpt8 (by kernel_rfl) zsz rfl h46
      exact flw_val rfl ((wanted_of rfl 44 rfl t44).trans rfl) (.int .i64 A1) (ex_load1 3 (.tmp 46) rfl (pa.add (1 * 1)) r46 (fun _ => by kernel_rfl) (HA1.out w1 ((Below.refl u6.heap.size u6).drew.trans hS))) hS (Flz.refl _) (updF_self _ _ _)
    · intro f w1 hS hf
      generalize hA : putAll _ _ f = aA
      have g44 : f 7 = .bool true := hf 7 (by decide)
      have t44 : aA.tmps[44]? = some (.bool true) := by rw [← hA]; exact putAll_g f 44 7 slotsPpt8 a0 sbPpt8 (by kernel_rfl) zsz rfl g44
      have r7 : aA.eval (.tmp 7) = .slice (some pa) 3 ca := by rw [← hA]; exact putAll_off f 7 slotsPpt8 a0 (by kernel_rfl) z7
      exact flw_val rfl ((wanted_of rfl 44 rfl t44).trans rfl) (.slice (some pa) 3 ca) (ex_move (.tmp 7) rfl r7) hS (Flz.refl _) (updF_self _ _ _)
    · intro f w1 hS hf
      generalize hA : putAll _ _ f = aA
      have g44 : f 7 = .bool true := hf 7 (by decide)
      have t44 : aA.tmps[44]? = some (.bool true) := by rw [← hA]; exact putAll_g f 44 7 slotsPpt8 a0 sbPpt8 (by kernel_rfl) zsz rfl g44
      have h48 : f 11 = .slice (some pa) 3 ca := hf 11 (by decide)
      have r48 : aA.eval (.tmp 48) = .slice (some pa) 3 ca := by rw [← hA]; exact putAll_at f 48 11 slotsPpt8 a0 sbPpt8 (by kernel_rfl) zsz rfl h48
      exact flw_val rfl ((wanted_of rfl 44 rfl t44).trans rfl) (.pointer (some (pa.add (2 * 1)))) (ex_indexS 23 3 (.tmp 48) _ rfl pa 3 ca 2 1 (by kernel_rfl) (fun _ => by kernel_rfl) r48 rfl (by decide)) hS (Flz.refl _) (updF_self _ _ _)
    · intro f w1 hS hf
      generalize hA : putAll _ _ f = aA
      have g44 : f 7 = .bool true := hf 7 (by decide)
      have t44 : aA.tmps[44]? = some (.bool true) := by rw [← hA]; exact putAll_g f 44 7 slotsPpt8 a0 sbPpt8 (by kernel_rfl) zsz rfl g44
      have h49 : f 12 = .pointer (some (pa.add (2 * 1))) := hf 12 (by decide)
      have r49 : aA.eval (.tmp 49) = .pointer (some (pa.add (2 * 1))) := by rw [← hA]; exact putAll_at f 49 12 slotsPpt8 a0 sbPpt8 (by kernel_rfl) zsz rfl h49
      exact flw_val rfl ((wanted_of rfl 44 rfl t44).trans rfl) (.int .i64 A2) (ex_load1 3 (.tmp 49) rfl (pa.add (2 * 1)) r49 (fun _ => by kernel_rfl) (HA2.out w1 ((Below.refl u6.heap.size u6).drew.trans hS))) hS (Flz.refl _) (updF_self _ _ _)
    · intro f w1 hS hf
      generalize hA : putAll _ _ f = aA
      have g44 : f 7 = .bool true := hf 7 (by decide)
      have t44 : aA.tmps[44]? = some (.bool true) := by rw [← hA]; exact putAll_g f 44 7 slotsPpt8 a0 sbPpt8 (by kernel_rfl) zsz rfl g44
      have h47 : f 10 = .int .i64 A1 := hf 10 (by decide)
      have r47 : aA.eval (.tmp 47) = .int .i64 A1 := by rw [← hA]; exact putAll_at f 47 10 slotsPpt8 a0 sbPpt8 (by kernel_rfl) zsz rfl h47
      have h50 : f 13 = .int .i64 A2 := hf 13 (by decide)
      have r50 : aA.eval (.tmp 50) = .int .i64 A2 := by rw [← hA]; exact putAll_at f 50 13 slotsPpt8 a0 sbPpt8 (by kernel_rfl) zsz rfl h50
      exact flw_val rfl ((wanted_of rfl 44 rfl t44).trans rfl) (.bool true) (Eq.trans (ex_int .lss _ _ (.tmp 47) (.tmp 50) rfl .i64 A1 A2 r47 r50 (.bool (decide (A1 < A2))) (fun _ => rfl)) (by rw [(show decide (A1 < A2) = true from decide_eq_true HC.out.2.1)])) hS (Flz.refl _) (updF_self _ _ _)
    · intro f w1 hS hf
      generalize hA : putAll _ _ f = aA
      have h44 : f 7 = .bool true := hf 7 (by decide)
      have r44 : aA.eval (.tmp 44) = .bool true := by rw [← hA]; exact putAll_at f 44 7 slotsPpt8 a0 sbPpt8 (by kernel_rfl) zsz rfl h44
      have h51 : f 14 = .bool true := hf 14 (by decide)
      have r51 : aA.eval (.tmp 51) = .bool true := by rw [← hA]; exact putAll_at f 51 14 slotsPpt8 a0 sbPpt8 (by kernel_rfl) zsz rfl h51
      exact flw_val rfl rfl (.bool true) (ex_pick (.tmp 44) (.tmp 51) _ rfl true r44 ((if_pos rfl).trans r51)) hS (Flz.refl _) (updF_self _ _ _)
    · intro f w1 hS hf
      generalize hA : putAll _ _ f = aA
      have h52 : f 15 = .bool true := hf 15 (by decide)
      have r52 : aA.eval (.tmp 52) = .bool true := by rw [← hA]; exact putAll_at f 52 15 slotsPpt8 a0 sbPpt8 (by kernel_rfl) zsz rfl h52
      exact flw_val rfl rfl (.bool true) (ex_move (.tmp 52) rfl r52) hS (Flz.refl _) (updF_self _ _ _)
    · intro f w1 hS hf
      generalize hA : putAll _ _ f = aA
      have g53 : f 16 = .bool true := hf 16 (by decide)
      have t53 : aA.tmps[53]? = some (.bool true) := by rw [← hA]; exact putAll_g f 53 16 slotsPpt8 a0 sbPpt8 (by kernel_rfl) zsz rfl g53
      have r8 : aA.eval (.tmp 8) = .slice (some pb) 3 cb := by rw [← hA]; exact putAll_off f 8 slotsPpt8 a0 (by kernel_rfl) z8
      exact flw_val rfl ((wanted_of rfl 53 rfl t53).trans rfl) (.slice (some pb) 3 cb) (ex_move (.tmp 8) rfl r8) hS (Flz.refl _) (updF_self _ _ _)
    · intro f w1 hS hf
      generalize hA : putAll _ _ f = aA
      have g53 : f 16 = .bool true := hf 16 (by decide)
      have t53 : aA.tmps[53]? = some (.bool true) := by rw [← hA]; exact putAll_g f 53 16 slotsPpt8 a0 sbPpt8 (by kernel_rfl) zsz rfl g53
      have h54 : f 17 = .slice (some pb) 3 cb := hf 17 (by decide)
      have r54 : aA.eval (.tmp 54) = .slice (some pb) 3 cb := by rw [← hA]; exact putAll_at f 54 17 slotsPpt8 a0 sbPpt8 (by kernel_rfl) zsz rfl h54
      exact flw_val rfl ((wanted_of rfl 53 rfl t53).trans rfl) (.pointer (some (pb.add (0 * 1)))) (ex_indexS 23 3 (.tmp 54) _ rfl pb 3 cb 0 1 (by kernel_rfl) (fun _ => by kernel_rfl) r54 rfl (by decide)) hS (Flz.refl _) (updF_self _ _ _)
    · intro f w1 hS hf
      generalize hA : putAll _ _ f = aA
      have g53 : f 16 = .bool true := hf 16 (by decide)
      have t53 : aA.tmps[53]? = some (.bool true) := by rw [← hA]; exact putAll_g f 53 16 slotsPpt8 a0 sbPpt8 (by kernel_rfl) zsz rfl g53
      have h55 : f 18 = .pointer (some (pb.add (0 * 1))) := hf 18 (by decide)
      have r55 : aA.eval (.tmp 55) = .pointer (some (pb.add (0 * 1))) := by rw [← hA]; exact putAll_at f 55 18 slotsPpt8 a0 sbPpt8 (by kernel_rfl) zsz rfl h55
      exact flw_val rfl ((wanted_of rfl 53 rfl t53).trans rfl) (.int .i64 B0) (ex_load1 3 (.tmp 55) rfl (pb.add (0 * 1)) r55 (fun _ => by kernel_rfl) (HB0.out w1 ((Below.refl u6.heap.size u6).drew.trans hS))) hS (Flz.refl _) (updF_self _ _ _)
    · intro f w1 hS hf
      generalize hA : putAll _ _ f = aA
      have g53 : f 16 = .bool true := hf 16 (by decide)
      have t53 : aA.tmps[53]? = some (.bool true) := by rw [← hA]; exact putAll_g f 53 16 slotsPpt8 a0 sbPpt8 (by kernel_rfl) zsz rfl g53
      have r8 : aA.eval (.tmp 8) = .slice (some pb) 3 cb := by rw [← hA]; exact putAll_off f 8 slotsPpt8 a0 (by kernel_rfl) z8
      exact flw_val rfl ((wanted_of rfl 53 rfl t53).trans rfl) (.slice (some pb) 3 cb) (ex_move (.tmp 8) rfl r8) hS (Flz.refl _) (updF_self _ _ _)
    · intro f w1 hS hf
      generalize hA : putAll _ _ f = aA
      have g53 : f 16 = .bool true := hf 16 (by decide)
      have t53 : aA.tmps[53]? = some (.bool true) := by rw [← hA]; exact putAll_g f 53 16 slotsPpt8 a0 sbPpt8 (by kernel_rfl) zsz rfl g53
      have h57 : f 20 = .slice (some pb) 3 cb := hf 20 (by decide)
      have r57 : aA.eval (.tmp 57) = .slice (some pb) 3 cb := by rw [← hA]; exact putAll_at f 57 20 slotsPpt8 a0 sbPpt8 (by kernel_rfl) zsz rfl h57
      exact flw_val rfl ((wanted_of rfl 53 rfl t53).trans rfl) (.pointer (some (pb.add (1 * 1)))) (ex_indexS 23 3 (.tmp 57) _ rfl pb 3 cb 1 1 (by kernel_rfl) (fun _ => by kernel_rfl) r57 rfl (by decide)) hS (Flz.refl _) (updF_self _ _ _)
    · intro f w1 hS hf
      generalize hA : putAll _ _ f = aA
      have g53 : f 16 = .bool true := hf 16 (by decide)
      have t53 : aA.tmps[53]? = some (.bool true) := by rw [← hA]; exact putAll_g f 53 16 slotsPpt8 a0 sbPpt8 (by kernel_rfl) zsz rfl g53
      have h58 : f 21 = .pointer (some (pb.add (1 * 1))) := hf 21 (by decide)
      have r58 : aA.eval (.tmp 58) = .pointer (some (pb.add (1 * 1))) := by rw [← hA]; exact putAll_at f 58 21 slotsPpt8 a0 sbPpt8 (by kernel_rfl) zsz rfl h58
      exact flw_val rfl ((wanted_of rfl 53 rfl t53).trans rfl) (.int .i64 B1) (ex_load1 3 (.tmp 58) rfl (pb.add (1 * 1)) r58 (fun _ => by kernel_rfl) (HB1.out w1 ((Below.refl u6.heap.size u6).drew.trans hS))) hS (Flz.refl _) (updF_self _ _ _)
    · intro f w1 hS hf
      generalize hA : putAll _ _ f = aA
      have g53 : f 16 = .bool true := hf 16 (by decide)
      have t53 : aA.tmps[53]? = some (.bool true) := by rw [← hA]; exact putAll_g f 53 16 slotsPpt8 a0 sbPpt8 (by kernel_rfl) zsz rfl g53
      have h56 : f 19 = .int .i64 B0 := hf 19 (by decide)
      have r56 : aA.eval (.tmp 56) = .int .i64 B0 := by rw [← hA]; exact putAll_at f 56 19 slotsPpt8 a0 sbPpt8 (by kernel_rfl) zsz rfl h56
      have h59 : f 22 = .int .i64 B1 := hf 22 (by decide)
      have r59 : aA.eval (.tmp 59) = .int .i64 B1 := by rw [← hA]; exact putAll_at f 59 22 slotsPpt8 a0 sbPpt8 (by kernel_rfl) zsz rfl h59
      exact flw_val rfl ((wanted_of rfl 53 rfl t53).trans rfl) (.bool true) (Eq.trans (ex_int .lss _ _ (.tmp 56) (.tmp 59) rfl .i64 B0 B1 r56 r59 (.bool (decide (B0 < B1))) (fun _ => rfl)) (by rw [(show decide (B0 < B1) = true from decide_eq_true HC.out.2.2.1)])) hS (Flz.refl _) (updF_self _ _ _)
    · intro f w1 hS hf
      generalize hA : putAll _ _ f = aA
      have h53 : f 16 = .bool true := hf 16 (by decide)
      have r53 : aA.eval (.tmp 53) = .bool true := by rw [← hA]; exact putAll_at f 53 16 slotsPpt8 a0 sbPpt8 (by kernel_rfl) zsz rfl h53
      have h60 : f 23 = .bool true := hf 23 (by decide)
      have r60 : aA.eval (.tmp 60) = .bool true := by rw [← hA]; exact putAll_at f 60 23 slotsPpt8 a0 sbPpt8 (by kernel_rfl) zsz rfl h60
      exact flw_val rfl rfl (.bool true) (ex_pick (.tmp 53) (.tmp 60) _ rfl true r53 ((if_pos rfl).trans r60)) hS (Flz.refl _) (updF_self _ _ _)
    · intro f w1 hS hf
      generalize hA : putAll _ _ f = aA
      have h61 : f 24 = .bool true := hf 24 (by decide)
      have r61 : aA.eval (.tmp 61) = .bool true := by rw [← hA]; exact putAll_at f 61 24 slotsPpt8 a0 sbPpt8 (by kernel_rfl) zsz rfl h61
      exact flw_val rfl rfl (.bool true) (ex_move (.tmp 61) rfl r61) hS (Flz.refl _) (updF_self _ _ _)
    · intro f w1 hS hf
      generalize hA : putAll _ _ f = aA
      have g62 : f 25 = .bool true := hf 25 (by decide)
      have t62 : aA.tmps[62]? = some (.bool true) := by rw [← hA]; exact putAll_g f 62 25 slotsPpt8 a0 sbPpt8 (by kernel_rfl) zsz rfl g62
      have r8 : aA.eval (.tmp 8) = .slice (some pb) 3 cb := by rw [← hA]; exact putAll_off f 8 slotsPpt8 a0 (by kernel_rfl) z8
      exact flw_val rfl ((wanted_of rfl 62 rfl t62).trans rfl) (.slice (some pb) 3 cb) (ex_move (.tmp 8) rfl r8) hS (Flz.refl _) (updF_self _ _ _)
    · intro f w1 hS hf
      generalize hA : putAll _ _ f = aA
      have g62 : f 25 = .bool true := hf 25 (by decide)
      have t62 : aA.tmps[62]? = some (.bool true) := by rw [← hA]; exact putAll_g f 62 25 slotsPpt8 a0 sbPpt8 (by kernel_rfl) zsz rfl g62
      have h63 : f 26 = .slice (some pb) 3 cb := hf 26 (by decide)
      have r63 : aA.eval (.tmp 63) = .slice (some pb) 3 cb := by rw [← hA]; exact putAll_at f 63 26 slotsPpt8 a0 sbPpt8 (by kernel_rfl) zsz rfl h63
      exact flw_val rfl ((wanted_of rfl 62 rfl t62).trans rfl) (.pointer (some (pb.add (1 * 1)))) (ex_indexS 23 3 (.tmp 63) _ rfl pb 3 cb 1 1 (by kernel_rfl) (fun _ => by kernel_rfl) r63 rfl (by decide)) hS (Flz.refl _) (updF_self _ _ _)
    · intro f w1 hS hf
      generalize hA : putAll _ _ f = aA
      have g62 : f 25 = .bool true := hf 25 (by decide)
      have t62 : aA.tmps[62]? = some (.bool true) := by rw [← hA]; exact putAll_g f 62 25 slotsPpt8 a0 sbPpt8 (by kernel_rfl) zsz rfl g62
      have h64 : f 27 = .pointer (some (pb.add (1 * 1))) := hf 27 (by decide)
      have r64 : aA.eval (.tmp 64) = .pointer (some (pb.add (1 * 1))) := by rw [← hA]; exact putAll_at f 64 27 slotsPpt8 a0 sbPpt8 (by kernel_rfl) zsz rfl h64
      exact flw_val rfl ((wanted_of rfl 62 rfl t62).trans rfl) (.int .i64 B1) (ex_load1 3 (.tmp 64) rfl (pb.add (1 * 1)) r64 (fun _ => by kernel_rfl) (HB1.out w1 ((Below.refl u6.heap.size u6).drew.trans hS))) hS (Flz.refl _) (updF_self _ _ _)
    · intro f w1 hS hf
      generalize hA : putAll _ _ f = aA
      have g62 : f 25 = .bool true := hf 25 (by decide)
      have t62 : aA.tmps[62]? = some (.bool true) := by rw [← hA]; exact putAll_g f 62 25 slotsPpt8 a0 sbPpt8 (by kernel_rfl) zsz rfl g62
      have r8 : aA.eval (.tmp 8) = .slice (some pb) 3 cb := by rw [← hA]; exact putAll_off f 8 slotsPpt8 a0 (by kernel_rfl) z8
      exact flw_val rfl ((wanted_of rfl 62 rfl t62).trans rfl) (.slice (some pb) 3 cb) (ex_move (.tmp 8) rfl r8) hS (Flz.refl _) (updF_self _ _ _)
    · intro f w1 hS hf
      generalize hA : putAll _ _ f = aA
      have g62 : f 25 = .bool true := hf 25 (by decide)
      have t62 : aA.tmps[62]? = some (.bool true) := by rw [← hA]; exact putAll_g f 62 25 slotsPpt8 a0 sbPpt8 (by kernel_rfl) zsz rfl g62
      have h66 : f 29 = .slice (some pb) 3 cb := hf 29 (by decide)
      have r66 : aA.eval (.tmp 66) = .slice (some pb) 3 cb := by rw [← hA]; exact putAll_at f 66 29 slotsPpt8 a0 sbPpt8 (by kernel_rfl) zsz rfl h66
      exact flw_val rfl ((wanted_of rfl 62 rfl t62).trans rfl) (.pointer (some (pb.add (2 * 1)))) (ex_indexS 23 3 (.tmp 66) _ rfl pb 3 cb 2 1 (by kernel_rfl) (fun _ => by kernel_rfl) r66 rfl (by decide)) hS (Flz.refl _) (updF_self _ _ _)
    · intro f w1 hS hf
      generalize hA : putAll _ _ f = aA
      have g62 : f 25 = .bool true := hf 25 (by decide)
      have t62 : aA.tmps[62]? = some (.bool true) := by rw [← hA]; exact putAll_g f 62 25 slotsPpt8 a0 sbPpt8 (by kernel_rfl) zsz rfl g62
      have h67 : f 30 = .pointer (some (pb.add (2 * 1))) := hf 30 (by decide)
      have r67 : aA.eval (.tmp 67) = .pointer (some (pb.add (2 * 1))) := by rw [← hA]; exact putAll_at f 67 30 slotsPpt8 a0 sbPpt8 (by kernel_rfl) zsz rfl h67
      exact flw_val rfl ((wanted_of rfl 62 rfl t62).trans rfl) (.int .i64 B2) (ex_load1 3 (.tmp 67) rfl (pb.add (2 * 1)) r67 (fun _ => by kernel_rfl) (HB2.out w1 ((Below.refl u6.heap.size u6).drew.trans hS))) hS (Flz.refl _) (updF_self _ _ _)
    · intro f w1 hS hf
      generalize hA : putAll _ _ f = aA
      have g62 : f 25 = .bool true := hf 25 (by decide)
      have t62 : aA.tmps[62]? = some (.bool true) := by rw [← hA]; exact putAll_g f 62 25 slotsPpt8 a0 sbPpt8 (by kernel_rfl) zsz rfl g62
      have h65 : f 28 = .int .i64 B1 := hf 28 (by decide)
      have r65 : aA.eval (.tmp 65) = .int .i64 B1 := by rw [← hA]; exact putAll_at f 65 28 slotsPpt8 a0 sbPpt8 (by kernel_rfl) zsz rfl h65
      have h68 : f 31 = .int .i64 B2 := hf 31 (by decide)
      have r68 : aA.eval (.tmp 68) = .int .i64 B2 := by rw [← hA]; exact putAll_at f 68 31 slotsPpt8 a0 sbPpt8 (by kernel_rfl) zsz rfl h68
      exact flw_val rfl ((wanted_of rfl 62 rfl t62).trans rfl) (.bool true) (Eq.trans (ex_int .lss _ _ (.tmp 65) (.tmp 68) rfl .i64 B1 B2 r65 r68 (.bool (decide (B1 < B2))) (fun _ => rfl)) (by rw [(show decide (B1 < B2) = true from decide_eq_true HC.out.2.2.2.1)])) hS (Flz.refl _) (updF_self _ _ _)
    · intro f w1 hS hf
      generalize hA : putAll _ _ f = aA
      have h62 : f 25 = .bool true := hf 25 (by decide)
      have r62 : aA.eval (.tmp 62) = .bool true := by rw [← hA]; exact putAll_at f 62 25 slotsPpt8 a0 sbPpt8 (by kernel_rfl) zsz rfl h62
      have h69 : f 32 = .bool true := hf 32 (by decide)
      have r69 : aA.eval (.tmp 69) = .bool true := by rw [← hA]; exact putAll_at f 69 32 slotsPpt8 a0 sbPpt8 (by kernel_rfl) zsz rfl h69
      exact flw_val rfl rfl (.bool true) (ex_pick (.tmp 62) (.tmp 69) _ rfl true r62 ((if_pos rfl).trans r69)) hS (Flz.refl _) (updF_self _ _ _)
    · intro f w1 hS hf
      generalize hA : putAll _ _ f = aA
      have h70 : f 33 = .bool true := hf 33 (by decide)
      have r70 : aA.eval (.tmp 70) = .bool true := by rw [← hA]; exact putAll_at f 70 33 slotsPpt8 a0 sbPpt8 (by kernel_rfl) zsz rfl h70
      exact flw_val rfl rfl (.bool true) (ex_move (.tmp 70) rfl r70) hS (Flz.refl _) (updF_self _ _ _)
    · intro f w1 hS hf
      generalize hA : putAll _ _ f = aA
      have g71 : f 34 = .bool true := hf 34 (by decide)
      have t71 : aA.tmps[71]? = some (.bool true) := by rw [← hA]; exact putAll_g f 71 34 slotsPpt8 a0 sbPpt8 (by kernel_rfl) zsz rfl g71
      have r7 : aA.eval (.tmp 7) = .slice (some pa) 3 ca := by rw [← hA]; exact putAll_off f 7 slotsPpt8 a0 (by kernel_rfl) z7
      exact flw_val rfl ((wanted_of rfl 71 rfl t71).trans rfl) (.slice (some pa) 3 ca) (ex_move (.tmp 7) rfl r7) hS (Flz.refl _) (updF_self _ _ _)
    · intro f w1 hS hf
      generalize hA : putAll _ _ f = aA
      have g71 : f 34 = .bool true := hf 34 (by decide)
      have t71 : aA.tmps[71]? = some (.bool true) := by rw [← hA]; exact putAll_g f 71 34 slotsPpt8 a0 sbPpt8 (by kernel_rfl) zsz rfl g71
      have h72 : f 35 = .slice (some pa) 3 ca := hf 35 (by decide)
      have r72 : aA.eval (.tmp 72) = .slice (some pa) 3 ca := by rw [← hA]; exact putAll_at f 72 35 slotsPpt8 a0 sbPpt8 (by kernel_rfl) zsz rfl h72
      exact flw_val rfl ((wanted_of rfl 71 rfl t71).trans rfl) (.pointer (some (pa.add (2 * 1)))) (ex_indexS 23 3 (.tmp 72) _ rfl pa 3 ca 2 1 (by kernel_rfl) (fun _ => by kernel_rfl) r72 rfl (by decide)) hS (Flz.refl _) (updF_self _ _ _)
    · intro f w1 hS hf
      generalize hA : putAll _ _ f = aA
      have g71 : f 34 = .bool true := hf 34 (by decide)
      have t71 : aA.tmps[71]? = some (.bool true) := by rw [← hA]; exact putAll_g f 71 34 slotsPpt8 a0 sbPpt8 (by kernel_rfl) zsz rfl g71
      have h73 : f 36 = .pointer (some (pa.add (2 * 1))) := hf 36 (by decide)
      have r73 : aA.eval (.tmp 73) = .pointer (some (pa.add (2 * 1))) := by rw [← hA]; exact putAll_at f 73 36 slotsPpt8 a0 sbPpt8 (by kernel_rfl) zsz rfl h73
      exact flw_val rfl ((wanted_of rfl 71 rfl t71).trans rfl) (.int .i64 A2) (ex_load1 3 (.tmp 73) rfl (pa.add (2 * 1)) r73 (fun _ => by kernel_rfl) (HA2.out w1 ((Below.refl u6.heap.size u6).drew.trans hS))) hS (Flz.refl _) (updF_self _ _ _)
    · intro f w1 hS hf
      generalize hA : putAll _ _ f = aA
      have g71 : f 34 = .bool true := hf 34 (by decide)
      have t71 : aA.tmps[71]? = some (.bool true) := by rw [← hA]; exact putAll_g f 71 34 slotsPpt8 a0 sbPpt8 (by kernel_rfl) zsz rfl g71
      have r1 : aA.eval (.tmp 1) = .int .i64 (3 * (p : Int)) := by rw [← hA]; exact putAll_off f 1 slotsPpt8 a0 (by kernel_rfl) z1
      exact flw_val rfl ((wanted_of rfl 71 rfl t71).trans rfl) (.int .i64 (3 * (p : Int))) (ex_move (.tmp 1) rfl r1) hS (Flz.refl _) (updF_self _ _ _)
    · intro f w1 hS hf
      generalize hA : putAll _ _ f = aA
      have g71 : f 34 = .bool true := hf 34 (by decide)
      have t71 : aA.tmps[71]? = some (.bool true) := by rw [← hA]; exact putAll_g f 71 34 slotsPpt8 a0 sbPpt8 (by kernel_rfl) zsz rfl g71
      have h74 : f 37 = .int .i64 A2 := hf 37 (by decide)
      have r74 : aA.eval (.tmp 74) = .int .i64 A2 := by rw [← hA]; exact putAll_at f 74 37 slotsPpt8 a0 sbPpt8 (by kernel_rfl) zsz rfl h74
      have h75 : f 38 = .int .i64 (3 * (p : Int)) := hf 38 (by decide)
      have r75 : aA.eval (.tmp 75) = .int .i64 (3 * (p : Int)) := by rw [← hA]; exact putAll_at f 75 38 slotsPpt8 a0 sbPpt8 (by kernel_rfl) zsz rfl h75
      exact flw_val rfl ((wanted_of rfl 71 rfl t71).trans rfl) (.bool true) (Eq.trans (ex_int .lss _ _ (.tmp 74) (.tmp 75) rfl .i64 A2 (3 * (p : Int)) r74 r75 (.bool (decide (A2 < (3 * (p : Int))))) (fun _ => rfl)) (by rw [(show decide (A2 < (3 * (p : Int))) = true from decide_eq_true HC.out.2.2.2.2.1)])) hS (Flz.refl _) (updF_self _ _ _)
    · intro f w1 hS hf
      generalize hA : putAll _ _ f = aA
      have h71 : f 34 = .bool true := hf 34 (by decide)
      have r71 : aA.eval (.tmp 71) = .bool true := by rw [← hA]; exact putAll_at f 71 34 slotsPpt8 a0 sbPpt8 (by kernel_rfl) zsz rfl h71
      have h76 : f 39 = .bool true := hf 39 (by decide)
      have r76 : aA.eval (.tmp 76) = .bool true := by rw [← hA]; exact putAll_at f 76 39 slotsPpt8 a0 sbPpt8 (by kernel_rfl) zsz rfl h76
      exact flw_val rfl rfl (.bool true) (ex_pick (.tmp 71) (.tmp 76) _ rfl true r71 ((if_pos rfl).trans r76)) hS (Flz.refl _) (updF_self _ _ _)
    · intro f w1 hS hf
      generalize hA : putAll _ _ f = aA
      have h77 : f 40 = .bool true := hf 40 (by decide)
      have r77 : aA.eval (.tmp 77) = .bool true := by rw [← hA]; exact putAll_at f 77 40 slotsPpt8 a0 sbPpt8 (by kernel_rfl) zsz rfl h77
      exact flw_val rfl rfl (.bool true) (ex_move (.tmp 77) rfl r77) hS (Flz.refl _) (updF_self _ _ _)
    · intro f w1 hS hf
      generalize hA : putAll _ _ f = aA
      have g78 : f 41 = .bool true := hf 41 (by decide)
      have t78 : aA.tmps[78]? = some (.bool true) := by rw [← hA]; exact putAll_g f 78 41 slotsPpt8 a0 sbPpt8 (by kernel_rfl) zsz rfl g78
      have r8 : aA.eval (.tmp 8) = .slice (some pb) 3 cb := by rw [← hA]; exact putAll_off f 8 slotsPpt8 a0 (by kernel_rfl) z8
      exact flw_val rfl ((wanted_of rfl 78 rfl t78).trans rfl) (.slice (some pb) 3 cb) (ex_move (.tmp 8) rfl r8) hS (Flz.refl _) (updF_self _ _ _)
    · intro f w1 hS hf
      generalize hA : putAll _ _ f = aA
      have g78 : f 41 = .bool true := hf 41 (by decide)
      have t78 : aA.tmps[78]? = some (.bool true) := by rw [← hA]; exact putAll_g f 78 41 slotsPpt8 a0 sbPpt8 (by kernel_rfl) zsz rfl g78
      have h79 : f 42 = .slice (some pb) 3 cb := hf 42 (by decide)
      have r79 : aA.eval (.tmp 79) = .slice (some pb) 3 cb := by rw [← hA]; exact putAll_at f 79 42 slotsPpt8 a0 sbPpt8 (by kernel_rfl) zsz rfl h79
      exact flw_val rfl ((wanted_of rfl 78 rfl t78).trans rfl) (.pointer (some (pb.add (2 * 1)))) (ex_indexS 23 3 (.tmp 79) _ rfl pb 3 cb 2 1 (by kernel_rfl) (fun _ => by kernel_rfl) r79 rfl (by decide)) hS (Flz.refl _) (updF_self _ _ _)
    · intro f w1 hS hf
      generalize hA : putAll _ _ f = aA
      have g78 : f 41 = .bool true := hf 41 (by decide)
      have t78 : aA.tmps[78]? = some (.bool true) := by rw [← hA]; exact putAll_g f 78 41 slotsPpt8 a0 sbPpt8 (by kernel_rfl) zsz rfl g78
      have h80 : f 43 = .pointer (some (pb.add (2 * 1))) := hf 43 (by decide)
      have r80 : aA.eval (.tmp 80) = .pointer (some (pb.add (2 * 1))) := by rw [← hA]; exact putAll_at f 80 43 slotsPpt8 a0 sbPpt8 (by kernel_rfl) zsz rfl h80
      exact flw_val rfl ((wanted_of rfl 78 rfl t78).trans rfl) (.int .i64 B2) (ex_load1 3 (.tmp 80) rfl (pb.add (2 * 1)) r80 (fun _ => by kernel_rfl) (HB2.out w1 ((Below.refl u6.heap.size u6).drew.trans hS))) hS (Flz.refl _) (updF_self _ _ _)
    · intro f w1 hS hf
      generalize hA : putAll _ _ f = aA
      have g78 : f 41 = .bool true := hf 41 (by decide)
      have t78 : aA.tmps[78]? = some (.bool true) := by rw [← hA]; exact putAll_g f 78 41 slotsPpt8 a0 sbPpt8 (by kernel_rfl) zsz rfl g78
      have r1 : aA.eval (.tmp 1) = .int .i64 (3 * (p : Int)) := by rw [← hA]; exact putAll_off f 1 slotsPpt8 a0 (by kernel_rfl) z1
      exact flw_val rfl ((wanted_of rfl 78 rfl t78).trans rfl) (.int .i64 (3 * (p : Int))) (ex_move (.tmp 1) rfl r1) hS (Flz.refl _) (updF_self _ _ _)
    · intro f w1 hS hf
      generalize hA : putAll _ _ f = aA
      have g78 : f 41 = .bool true := hf 41 (by decide)
      have t78 : aA.tmps[78]? = some (.bool true) := by rw [← hA]; exact putAll_g f 78 41 slotsPpt8 a0 sbPpt8 (by kernel_rfl) zsz rfl g78
      have h82 : f 45 = .int .i64 (3 * (p : Int)) := hf 45 (by decide)
      have r82 : aA.eval (.tmp 82) = .int .i64 (3 * (p : Int)) := by rw [← hA]; exact putAll_at f 82 45 slotsPpt8 a0 sbPpt8 (by kernel_rfl) zsz rfl h82
      exact flw_val rfl ((wanted_of rfl 78 rfl t78).trans rfl) (.int .i64 (3 * (p : Int) + 3)) (ex_int .add _ _ (.tmp 82) _ rfl .i64 (3 * (p : Int)) 3 r82 rfl (.int .i64 (3 * (p : Int) + 3)) (add_p (by omega))) hS (Flz.refl _) (updF_self _ _ _)
    · intro f w1 hS hf
      generalize hA : putAll _ _ f = aA
      have g78 : f 41 = .bool true := hf 41 (by decide)
      have t78 : aA.tmps[78]? = some (.bool true) := by rw [← hA]; exact putAll_g f 78 41 slotsPpt8 a0 sbPpt8 (by kernel_rfl) zsz rfl g78
      have h81 : f 44 = .int .i64 B2 := hf 44 (by decide)
      have r81 : aA.eval (.tmp 81) = .int .i64 B2 := by rw [← hA]; exact putAll_at f 81 44 slotsPpt8 a0 sbPpt8 (by kernel_rfl) zsz rfl h81
      have h83 : f 46 = .int .i64 (3 * (p : Int) + 3) := hf 46 (by decide)
      have r83 : aA.eval (.tmp 83) = .int .i64 (3 * (p : Int) + 3) := by rw [← hA]; exact putAll_at f 83 46 slotsPpt8 a0 sbPpt8 (by kernel_rfl) zsz rfl h83
      exact flw_val rfl ((wanted_of rfl 78 rfl t78).trans rfl) (.bool true) (Eq.trans (ex_int .lss _ _ (.tmp 81) (.tmp 83) rfl .i64 B2 (3 * (p : Int) + 3) r81 r83 (.bool (decide (B2 < (3 * (p : Int) + 3)))) (fun _ => rfl)) (by rw [(show decide (B2 < (3 * (p : Int) + 3)) = true from decide_eq_true HC.out.2.2.2.2.2.1)])) hS (Flz.refl _) (updF_self _ _ _)
    · intro f w1 hS hf
      generalize hA : putAll _ _ f = aA
      have h78 : f 41 = .bool true := hf 41 (by decide)
      have r78 : aA.eval (.tmp 78) = .bool true := by rw [← hA]; exact putAll_at f 78 41 slotsPpt8 a0 sbPpt8 (by kernel_rfl) zsz rfl h78
      have h84 : f 47 = .bool true := hf 47 (by decide)
      have r84 : aA.eval (.tmp 84) = .bool true := by rw [← hA]; exact putAll_at f 84 47 slotsPpt8 a0 sbPpt8 (by kernel_rfl) zsz rfl h84
      exact flw_val rfl rfl (.bool true) (ex_pick (.tmp 78) (.tmp 84) _ rfl true r78 ((if_pos rfl).trans r84)) hS (Flz.refl _) (updF_self _ _ _)
    · intro f w1 hS hf
      generalize hA : putAll _ _ f = aA
      have h85 : f 48 = .bool true := hf 48 (by decide)
      have r85 : aA.eval (.tmp 85) = .bool true := by rw [← hA]; exact putAll_at f 85 48 slotsPpt8 a0 sbPpt8 (by kernel_rfl) zsz rfl h85
      exact flw_val rfl rfl (.bool true) (ex_move (.tmp 85) rfl r85) hS (Flz.refl _) (updF_self _ _ _)
    · intro f w1 hS hf
      generalize hA : putAll _ _ f = aA
      have g86 : f 49 = .bool true := hf 49 (by decide)
      have t86 : aA.tmps[86]? = some (.bool true) := by rw [← hA]; exact putAll_g f 86 49 slotsPpt8 a0 sbPpt8 (by kernel_rfl) zsz rfl g86
      have r7 : aA.eval (.tmp 7) = .slice (some pa) 3 ca := by rw [← hA]; exact putAll_off f 7 slotsPpt8 a0 (by kernel_rfl) z7
      exact flw_val rfl ((wanted_of rfl 86 rfl t86).trans rfl) (.slice (some pa) 3 ca) (ex_move (.tmp 7) rfl r7) hS (Flz.refl _) (updF_self _ _ _)
    · intro f w1 hS hf
      generalize hA : putAll _ _ f = aA
      have g86 : f 49 = .bool true := hf 49 (by decide)
      have t86 : aA.tmps[86]? = some (.bool true) := by rw [← hA]; exact putAll_g f 86 49 slotsPpt8 a0 sbPpt8 (by kernel_rfl) zsz rfl g86
      have h87 : f 50 = .slice (some pa) 3 ca := hf 50 (by decide)
      have r87 : aA.eval (.tmp 87) = .slice (some pa) 3 ca := by rw [← hA]; exact putAll_at f 87 50 slotsPpt8 a0 sbPpt8 (by kernel_rfl) zsz rfl h87
      exact flw_val rfl ((wanted_of rfl 86 rfl t86).trans rfl) (.pointer (some (pa.add (0 * 1)))) (ex_indexS 23 3 (.tmp 87) _ rfl pa 3 ca 0 1 (by kernel_rfl) (fun _ => by kernel_rfl) r87 rfl (by decide)) hS (Flz.refl _) (updF_self _ _ _)
    · intro f w1 hS hf
      generalize hA : putAll _ _ f = aA
      have g86 : f 49 = .bool true := hf 49 (by decide)
      have t86 : aA.tmps[86]? = some (.bool true) := by rw [← hA]; exact putAll_g f 86 49 slotsPpt8 a0 sbPpt8 (by kernel_rfl) zsz rfl g86
      have h88 : f 51 = .pointer (some (pa.add (0 * 1))) := hf 51 (by decide)
      have r88 : aA.eval (.tmp 88) = .pointer (some (pa.add (0 * 1))) := by rw [← hA]; exact putAll_at f 88 51 slotsPpt8 a0 sbPpt8 (by kernel_rfl) zsz rfl h88
      exact flw_val rfl ((wanted_of rfl 86 rfl t86).trans rfl) (.int .i64 A0) (ex_load1 3 (.tmp 88) rfl (pa.add (0 * 1)) r88 (fun _ => by kernel_rfl) (HA0.out w1 ((Below.refl u6.heap.size u6).drew.trans hS))) hS (Flz.refl _) (updF_self _ _ _)
    · intro f w1 hS hf
      generalize hA : putAll _ _ f = aA
      have g86 : f 49 = .bool true := hf 49 (by decide)
      have t86 : aA.tmps[86]? = some (.bool true) := by rw [← hA]; exact putAll_g f 86 49 slotsPpt8 a0 sbPpt8 (by kernel_rfl) zsz rfl g86
      have h89 : f 52 = .int .i64 A0 := hf 52 (by decide)
      have r89 : aA.eval (.tmp 89) = .int .i64 A0 := by rw [← hA]; exact putAll_at f 89 52 slotsPpt8 a0 sbPpt8 (by kernel_rfl) zsz rfl h89
      exact flw_val rfl ((wanted_of rfl 86 rfl t86).trans rfl) (.bool true) (Eq.trans (ex_int .geq _ _ (.tmp 89) _ rfl .i64 A0 0 r89 rfl (.bool (decide (A0 ≥ (0 : Int)))) (fun _ => rfl)) (by rw [(show decide (A0 ≥ (0 : Int)) = true from decide_eq_true HC.out.2.2.2.2.2.2)])) hS (Flz.refl _) (updF_self _ _ _)
    · intro f w1 hS hf
      generalize hA : putAll _ _ f = aA
      have h86 : f 49 = .bool true := hf 49 (by decide)
      have r86 : aA.eval (.tmp 86) = .bool true := by rw [← hA]; exact putAll_at f 86 49 slotsPpt8 a0 sbPpt8 (by kernel_rfl) zsz rfl h86
      have h90 : f 53 = .bool true := hf 53 (by decide)
      have r90 : aA.eval (.tmp 90) = .bool true := by rw [← hA]; exact putAll_at f 90 53 slotsPpt8 a0 sbPpt8 (by kernel_rfl) zsz rfl h90
      exact flw_val rfl rfl (.bool true) (ex_pick (.tmp 86) (.tmp 90) _ rfl true r86 ((if_pos rfl).trans r90)) hS (Flz.refl _) (updF_self _ _ _)
    · intro f w1 hS hf
      generalize hA : putAll _ _ f = aA
      have h91 : f 54 = .bool true := hf 54 (by decide)
      have r91 : aA.eval (.tmp 91) = .bool true := by rw [← hA]; exact putAll_at f 91 54 slotsPpt8 a0 sbPpt8 (by kernel_rfl) zsz rfl h91
      exact flw_val rfl rfl (.bool true) (ex_move (.tmp 91) rfl r91) hS (Flz.refl _) (updF_self _ _ _)
    · intro f w1 hS hf
      generalize hA : putAll _ _ f = aA
      have g92 : f 55 = .bool true := hf 55 (by decide)
      have t92 : aA.tmps[92]? = some (.bool true) := by rw [← hA]; exact putAll_g f 92 55 slotsPpt8 a0 sbPpt8 (by kernel_rfl) zsz rfl g92
      have r5 : aA.eval (.tmp 5) = .pointer (some ⟨g1, 0, none⟩) := by rw [← hA]; exact putAll_off f 5 slotsPpt8 a0 (by kernel_rfl) z5
      exact flw_val rfl ((wanted_of rfl 92 rfl t92).trans rfl) (.agg (encU x).toArray) (ex_loadR 27 (.tmp 5) rfl ⟨g1, 0, none⟩ r5 (fun _ => by kernel_rfl) (encU x) (by rw [encU_len]; kernel_rfl) ((HX1.out.keepB hS).part (encU x) 0 (encU_all' x))) hS (Flz.refl _) (updF_self _ _ _)
    · intro f w1 hS hf
      generalize hA : putAll _ _ f = aA
      have g92 : f 55 = .bool true := hf 55 (by decide)
      have t92 : aA.tmps[92]? = some (.bool true) := by rw [← hA]; exact putAll_g f 92 55 slotsPpt8 a0 sbPpt8 (by kernel_rfl) zsz rfl g92
      have h93 : f 56 = .agg (encU x).toArray := hf 56 (by decide)
      have r93 : aA.eval (.tmp 93) = .agg (encU x).toArray := by rw [← hA]; exact putAll_at f 93 56 slotsPpt8 a0 sbPpt8 (by kernel_rfl) zsz rfl h93
      exact flw_call rfl ((wanted_of rfl 92 rfl t92).trans rfl) 9 #[(.tmp 93)] _ rfl #[.agg (encU x).toArray] (by simp only [List.map_toArray, List.map_cons, List.map_nil, r93]) (fun w => by kernel_rfl) (fun v _ => v = .int .i64 (((levelN x : Nat) : Int))) (as_val (level14_any x w1 (HL.out.keep (HB.out.trans (hS.mono HB.out.size)) HSZ.out) (HD.out _ (HB.out.trans (hS.mono HB.out.size))))) (fun v w' hr hb => ⟨hS.trans (hb.mono hS.size), Flz.of hb, (updF_self _ _ _).trans hr⟩)
    · intro f w1 hS hf
      generalize hA : putAll _ _ f = aA
      have g92 : f 55 = .bool true := hf 55 (by decide)
      have t92 : aA.tmps[92]? = some (.bool true) := by rw [← hA]; exact putAll_g f 92 55 slotsPpt8 a0 sbPpt8 (by kernel_rfl) zsz rfl g92
      have h94 : f 57 = .int .i64 (((levelN x : Nat) : Int)) := hf 57 (by decide)
      have r94 : aA.eval (.tmp 94) = .int .i64 (((levelN x : Nat) : Int)) := by rw [← hA]; exact putAll_at f 94 57 slotsPpt8 a0 sbPpt8 (by kernel_rfl) zsz rfl h94
      exact flw_val rfl ((wanted_of rfl 92 rfl t92).trans rfl) (.bool true) (Eq.trans (ex_int .geq _ _ (.tmp 94) _ rfl .i64 (((levelN x : Nat) : Int)) 0 r94 rfl (.bool (decide ((((levelN x : Nat) : Int)) ≥ (0 : Int)))) (fun _ => rfl)) (by rw [(show decide ((((levelN x : Nat) : Int)) ≥ (0 : Int)) = true from decide_eq_true (by omega))])) hS (Flz.refl _) (updF_self _ _ _)
    · intro f w1 hS hf
      generalize hA : putAll _ _ f = aA
      have h92 : f 55 = .bool true := hf 55 (by decide)
      have r92 : aA.eval (.tmp 92) = .bool true := by rw [← hA]; exact putAll_at f 92 55 slotsPpt8 a0 sbPpt8 (by kernel_rfl) zsz rfl h92
      have h95 : f 58 = .bool true := hf 58 (by decide)
      have r95 : aA.eval (.tmp 95) = .bool true := by rw [← hA]; exact putAll_at f 95 58 slotsPpt8 a0 sbPpt8 (by kernel_rfl) zsz rfl h95
      exact flw_val rfl rfl (.bool true) (ex_pick (.tmp 92) (.tmp 95) _ rfl true r92 ((if_pos rfl).trans r95)) hS (Flz.refl _) (updF_self _ _ _)
    · intro f w1 hS hf
      generalize hA : putAll _ _ f = aA
      have h96 : f 59 = .bool true := hf 59 (by decide)
      have r96 : aA.eval (.tmp 96) = .bool true := by rw [← hA]; exact putAll_at f 96 59 slotsPpt8 a0 sbPpt8 (by kernel_rfl) zsz rfl h96
      exact flw_val rfl rfl (.bool true) (ex_move (.tmp 96) rfl r96) hS (Flz.refl _) (updF_self _ _ _)
    · intro f w1 hS hf
      generalize hA : putAll _ _ f = aA
      have g97 : f 60 = .bool true := hf 60 (by decide)
      have t97 : aA.tmps[97]? = some (.bool true) := by rw [← hA]; exact putAll_g f 97 60 slotsPpt8 a0 sbPpt8 (by kernel_rfl) zsz rfl g97
      have r5 : aA.eval (.tmp 5) = .pointer (some ⟨g1, 0, none⟩) := by rw [← hA]; exact putAll_off f 5 slotsPpt8 a0 (by kernel_rfl) z5
      exact flw_val rfl ((wanted_of rfl 97 rfl t97).trans rfl) (.agg (encU x).toArray) (ex_loadR 27 (.tmp 5) rfl ⟨g1, 0, none⟩ r5 (fun _ => by kernel_rfl) (encU x) (by rw [encU_len]; kernel_rfl) ((HX1.out.keepB hS).part (encU x) 0 (encU_all' x))) hS (Flz.refl _) (updF_self _ _ _)
    · intro f w1 hS hf
      generalize hA : putAll _ _ f = aA
      have g97 : f 60 = .bool true := hf 60 (by decide)
      have t97 : aA.tmps[97]? = some (.bool true) := by rw [← hA]; exact putAll_g f 97 60 slotsPpt8 a0 sbPpt8 (by kernel_rfl) zsz rfl g97
      have h98 : f 61 = .agg (encU x).toArray := hf 61 (by decide)
      have r98 : aA.eval (.tmp 98) = .agg (encU x).toArray := by rw [← hA]; exact putAll_at f 98 61 slotsPpt8 a0 sbPpt8 (by kernel_rfl) zsz rfl h98
      exact flw_call rfl ((wanted_of rfl 97 rfl t97).trans rfl) 9 #[(.tmp 98)] _ rfl #[.agg (encU x).toArray] (by simp only [List.map_toArray, List.map_cons, List.map_nil, r98]) (fun w => by kernel_rfl) (fun v _ => v = .int .i64 (((levelN x : Nat) : Int))) (as_val (level14_any x w1 (HL.out.keep (HB.out.trans (hS.mono HB.out.size)) HSZ.out) (HD.out _ (HB.out.trans (hS.mono HB.out.size))))) (fun v w' hr hb => ⟨hS.trans (hb.mono hS.size), Flz.of hb, (updF_self _ _ _).trans hr⟩)
    · intro f w1 hS hf
      generalize hA : putAll _ _ f = aA
      have g97 : f 60 = .bool true := hf 60 (by decide)
      have t97 : aA.tmps[97]? = some (.bool true) := by rw [← hA]; exact putAll_g f 97 60 slotsPpt8 a0 sbPpt8 (by kernel_rfl) zsz rfl g97
      have h99 : f 62 = .int .i64 (((levelN x : Nat) : Int)) := hf 62 (by decide)
      have r99 : aA.eval (.tmp 99) = .int .i64 (((levelN x : Nat) : Int)) := by rw [← hA]; exact putAll_at f 99 62 slotsPpt8 a0 sbPpt8 (by kernel_rfl) zsz rfl h99
      exact flw_val rfl ((wanted_of rfl 97 rfl t97).trans rfl) (.bool true) (Eq.trans (ex_int .lss _ _ (.tmp 99) _ rfl .i64 (((levelN x : Nat) : Int)) 10 r99 rfl (.bool (decide ((((levelN x : Nat) : Int)) < (10 : Int)))) (fun _ => rfl)) (by rw [(show decide ((((levelN x : Nat) : Int)) < (10 : Int)) = true from decide_eq_true (by have := levelN_le x; omega))])) hS (Flz.refl _) (updF_self _ _ _)
    · intro f w1 hS hf
      generalize hA : putAll _ _ f = aA
      have h97 : f 60 = .bool true := hf 60 (by decide)
      have r97 : aA.eval (.tmp 97) = .bool true := by rw [← hA]; exact putAll_at f 97 60 slotsPpt8 a0 sbPpt8 (by kernel_rfl) zsz rfl h97
      have h100 : f 63 = .bool true := hf 63 (by decide)
      have r100 : aA.eval (.tmp 100) = .bool true := by rw [← hA]; exact putAll_at f 100 63 slotsPpt8 a0 sbPpt8 (by kernel_rfl) zsz rfl h100
      exact flw_val rfl rfl (.bool true) (ex_pick (.tmp 97) (.tmp 100) _ rfl true r97 ((if_pos rfl).trans r100)) hS (Flz.refl _) (updF_self _ _ _)
    · intro f w1 hS hf
      generalize hA : putAll _ _ f = aA
      have h101 : f 64 = .bool true := hf 64 (by decide)
      have r101 : aA.eval (.tmp 101) = .bool true := by rw [← hA]; exact putAll_at f 101 64 slotsPpt8 a0 sbPpt8 (by kernel_rfl) zsz rfl h101
      exact flw_val rfl rfl (.bool true) (ex_assign (.tmp 101) rfl r101) hS (Flz.refl _) (updF_self _ _ _)
  intro f u8 hS hf hap
  have h0 : f 0 = .slice (some pa) 3 ca := hf 0 (by decide)
  have h1 : f 1 = .pointer (some (pa.add (0 * 1))) := hf 1 (by decide)
  have h2 : f 2 = .int .i64 A0 := hf 2 (by decide)
  have h3 : f 3 = .slice (some pa) 3 ca := hf 3 (by decide)
  have h4 : f 4 = .pointer (some (pa.add (1 * 1))) := hf 4 (by decide)
  have h5 : f 5 = .int .i64 A1 := hf 5 (by decide)
  have h6 : f 6 = .bool true := hf 6 (by decide)
  have h7 : f 7 = .bool true := hf 7 (by decide)
  have h8 : f 8 = .slice (some pa) 3 ca := hf 8 (by decide)
  have h9 : f 9 = .pointer (some (pa.add (1 * 1))) := hf 9 (by decide)
  have h10 : f 10 = .int .i64 A1 := hf 10 (by decide)
  have h11 : f 11 = .slice (some pa) 3 ca := hf 11 (by decide)
  have h12 : f 12 = .pointer (some (pa.add (2 * 1))) := hf 12 (by decide)
  have h13 : f 13 = .int .i64 A2 := hf 13 (by decide)
  have h14 : f 14 = .bool true := hf 14 (by decide)
  have h15 : f 15 = .bool true := hf 15 (by decide)
  have h16 : f 16 = .bool true := hf 16 (by decide)
  have h17 : f 17 = .slice (some pb) 3 cb := hf 17 (by decide)
  have h18 : f 18 = .pointer (some (pb.add (0 * 1))) := hf 18 (by decide)
  have h19 : f 19 = .int .i64 B0 := hf 19 (by decide)
  have h20 : f 20 = .slice (some pb) 3 cb := hf 20 (by decide)
  have h21 : f 21 = .pointer (some (pb.add (1 * 1))) := hf 21 (by decide)
  have h22 : f 22 = .int .i64 B1 := hf 22 (by decide)
  have h23 : f 23 = .bool true := hf 23 (by decide)
  have h24 : f 24 = .bool true := hf 24 (by decide)
  have h25 : f 25 = .bool true := hf 25 (by decide)
  have h26 : f 26 = .slice (some pb) 3 cb := hf 26 (by decide)
  have h27 : f 27 = .pointer (some (pb.add (1 * 1))) := hf 27 (by decide)
  have h28 : f 28 = .int .i64 B1 := hf 28 (by decide)
  have h29 : f 29 = .slice (some pb) 3 cb := hf 29 (by decide)
  have h30 : f 30 = .pointer (some (pb.add (2 * 1))) := hf 30 (by decide)
  have h31 : f 31 = .int .i64 B2 := hf 31 (by decide)
  have h32 : f 32 = .bool true := hf 32 (by decide)
  have h33 : f 33 = .bool true := hf 33 (by decide)
  have h34 : f 34 = .bool true := hf 34 (by decide)
  have h35 : f 35 = .slice (some pa) 3 ca := hf 35 (by decide)
  have h36 : f 36 = .pointer (some (pa.add (2 * 1))) := hf 36 (by decide)
  have h37 : f 37 = .int .i64 A2 := hf 37 (by decide)
  have h38 : f 38 = .int .i64 (3 * (p : Int)) := hf 38 (by decide)
  have h39 : f 39 = .bool true := hf 39 (by decide)
  have h40 : f 40 = .bool true := hf 40 (by decide)
  have h41 : f 41 = .bool true := hf 41 (by decide)
  have h42 : f 42 = .slice (some pb) 3 cb := hf 42 (by decide)
  have h43 : f 43 = .pointer (some (pb.add (2 * 1))) := hf 43 (by decide)
  have h44 : f 44 = .int .i64 B2 := hf 44 (by decide)
  have h45 : f 45 = .int .i64 (3 * (p : Int)) := hf 45 (by decide)
  have h46 : f 46 = .int .i64 (3 * (p : Int) + 3) := hf 46 (by decide)
  have h47 : f 47 = .bool true := hf 47 (by decide)
  have h48 : f 48 = .bool true := hf 48 (by decide)
  have h49 : f 49 = .bool true := hf 49 (by decide)
  have h50 : f 50 = .slice (some pa) 3 ca := hf 50 (by decide)
  have h51 : f 51 = .pointer (some (pa.add (0 * 1))) := hf 51 (by decide)
  have h52 : f 52 = .int .i64 A0 := hf 52 (by decide)
  have h53 : f 53 = .bool true := hf 53 (by decide)
  have h54 : f 54 = .bool true := hf 54 (by decide)
  have h55 : f 55 = .bool true := hf 55 (by decide)
  have h56 : f 56 = .agg (encU x).toArray := hf 56 (by decide)
  have h57 : f 57 = .int .i64 (((levelN x : Nat) : Int)) := hf 57 (by decide)
  have h58 : f 58 = .bool true := hf 58 (by decide)
  have h59 : f 59 = .bool true := hf 59 (by decide)
  have h60 : f 60 = .bool true := hf 60 (by decide)
  have h61 : f 61 = .agg (encU x).toArray := hf 61 (by decide)
  have h62 : f 62 = .int .i64 (((levelN x : Nat) : Int)) := hf 62 (by decide)
  have h63 : f 63 = .bool true := hf 63 (by decide)
  have h64 : f 64 = .bool true := hf 64 (by decide)
  have h65 : f 65 = .bool true := hf 65 (by decide)
  clear hf hap
  clear zsz z7 z8 z1 z5
  subst ha0
  simp only [slotsPpt8, putAll, h0, h1, h2, h3, h4, h5, h6, h7, h8, h9, h10, h11, h12, h13, h14, h15, h16, h17, h18, h19, h20, h21, h22, h23, h24, h25, h26, h27, h28, h29, h30, h31, h32, h33, h34, h35, h36, h37, h38, h39, h40, h41, h42, h43, h44, h45, h46, h47, h48, h49, h50, h51, h52, h53, h54, h55, h56, h57, h58, h59, h60, h61, h62, h63, h64, h65, Act.put, List.setIfInBounds_toArray, List.set_cons_zero, List.set_cons_succ]
  clear h0 h1 h2 h3 h4 h5 h6 h7 h8 h9 h10 h11 h12 h13 h14 h15 h16 h17 h18 h19 h20 h21 h22 h23 h24 h25 h26 h27 h28 h29 h30 h31 h32 h33 h34 h35 h36 h37 h38 h39 h40 h41 h42 h43 h44 h45 h46 h47 h48 h49 h50 h51 h52 h53 h54 h55 h56 h57 h58 h59 h60 h61 h62 h63 h64 h65
  refine tl_nilN ?_
  replace HX1 := Lib.hid (HX1.out.keepB hS)
  replace HB := Lib.hid (HB.out.trans (hS.mono HB.out.size))
  clear hS
  go_wp2_with fail
  go_ret
  exact ⟨rfl, HB.out⟩
theorem placeParts_law (s : Nat) (hs : s < 18446744073709551616) (n : Int) (hn : -9223372036854775808 ≤ n ∧ n ≤ 9223372036854775807) (x : Su) (w : World) (hL : Laid w) (hD : DeB w) : Calls Tryd.prog 5 #[.int .u64 (s : Nat), .int .i64 n, .agg (encU x).toArray] w fun e w' => e = .returned (.bool true) ∧ Below w.heap.size w w' := placeParts_b s hs n hn x w w (Below.refl _ _) hL hD
end Go.Proofs.YtbkddcafalhflaaDoor
