/- The law PeelKnown: it answers true. Condition: the sums' tables are laid. -/
import Derived.Test.YtnkcehmgagpadaaDoorSq
import Derived.Test.YtnkcehmgagpadaaDoorQw
import Derived.Test.YtnkcehmgagpadaaDoorQkp
namespace Go.Proofs.YtnkcehmgagpadaaDoor
open Go.RowKit
def tZ : List (BitVec 8) := [122#8]
def sOne : Su := ⟨1#8 :: List.replicate 31 0#8, by simp⟩
def sTwo : Su := ⟨2#8 :: List.replicate 31 0#8, by simp⟩
theorem un21 : goodU [sTwo, sOne] = false := by kernel_rfl
theorem newC_t (s : Nat) (n : Int) (m : Nat) (hg : goodN n = true) (hm : n = m) (w : World) : Calls Tryd.prog 10 #[.int .u64 (s : Int), .int .i64 n] w fun e w' => (∃ v, e = .returned v ∧ ∃ zz, v = .tuple #[.agg #[.int .u64 (s : Int), zz], .int .i64 0] ∧ Cs w' zz (List.replicate m zC)) ∧ Below w.heap.size w w' :=
 Calls.mono (newT_t s n m hg hm w 0 (Nat.zero_le _)) fun _ _ ⟨⟨v, h1, x, h2, h3⟩, h4⟩ => ⟨⟨v, h1, x, h2, h3.cs⟩, h4⟩
theorem allBad (s : Nat) (v : Value) (L : List Ce) (w : World) (hs : s < 18446744073709551616) (hL : Laid w) (hM : L.length ≤ 1000000) (hC : Cs w v L) (hg : goodN (L.length : Int) = false) :
  Calls Tryd.prog 9 #[.agg #[.int .u64 (s : Int), v]] w fun e w' => (∃ v, e = .returned v ∧ v = .tuple #[.agg #[.slice none 0 0, .slice none 0 0, .int .u64 0, .slice none 0 0], .int .i64 1]) ∧ Below w.heap.size w w' :=
 Calls.mono (allP_bad s v L w hs hL hM hC hg) fun _ _ ⟨h1, h2⟩ => ⟨⟨_, h1, rfl⟩, h2⟩
theorem ownBad (s : Nat) (v : Value) (T : List Ce) (u : Value) (B : List Su) (w : World) (hs : s < 18446744073709551616) (hL : Laid w) (hM : T.length ≤ 1000000) (hn : B.length ≤ 1000) (hC : Cs w v T) (hU : Us w u B) (hg : goodN (T.length : Int) = true) (hb : goodU B = false) :
  Calls Tryd.prog 13 #[.agg #[.int .u64 (s : Int), v], u] w fun e w' => (∃ v, e = .returned v ∧ v = .tuple #[.slice none 0 0, .slice none 0 0, .int .i64 1]) ∧ Below w.heap.size w w' :=
 Calls.mono (ownP_bad s v T u B w hs hL hM hn hC hU hg hb) fun _ _ ⟨h1, h2⟩ => ⟨⟨_, h1, rfl⟩, h2⟩
theorem Us.lit {w : World} {g : Nat} {E : TypeId} {L : List Su} {n : Nat} (h : Has w g E (rowU L)) (hn : L.length = n) : Us w (.slice (some ⟨g, 0, none⟩) n n) L := by
 subst hn; exact ⟨some ⟨g, 0, none⟩, L.length, rfl, Nat.le_refl _, fun e => (by cases e), Sees.of_has h h.lt⟩
theorem wp_two_su {o : Oper} {a : Act} {w : World} {Q : Exit → Act → World → Prop} {K : Act → World → Prop} (x y : Operand) (ho : o.op = .buildSlice 24 2 #[(0, x), (1, y)]) (hx : a.eval x = .agg (encU sTwo).toArray) (hy : a.eval y = .agg (encU sOne).toArray)
  (h : K (a.put o.dst (.slice (some ⟨w.heap.size, 0, none⟩) 2 2)) (w.alloc (.cells (rowU [sTwo, sOne]).toArray 42))) : o.wp Tryd.prog a w K Q := by
 obtain ⟨i0, hi, hz0, hz1, hz2⟩ := info_parts elSum.2.2
 refine wp_buildSlice 24 42 2 _ ho (rowU [sTwo, sOne]).toArray i0 _ Tryd.underlying24 hi hz0 (by rw [hz1]; omega) (by rw [hz1]; omega) ?_ h
 rw [hz1]
 simp only [List.map_toArray, List.map_cons, List.map_nil, hx, hy]
 kernel_rfl
def waitKn1 (i : Nat) : List Nat := ([[], [0]] : List (List Nat)).getD i []
def slotsKn1 : List (Nat × Nat) := [(29, 0), (30, 1)]
theorem sbKn1 : slotsB slotsKn1 = true := by kernel_rfl
theorem chkKn1 : flwO slotsKn1 waitKn1 2 (regOf Tryd.f3.body 1) = true := by kernel_rfl
def waitKn3 (i : Nat) : List Nat := ([[], [0], [1], [2], [2], [], [0, 1, 2, 3, 4, 5], [0, 1, 2, 3, 4, 5, 6]] : List (List Nat)).getD i []
def slotsKn3 : List (Nat × Nat) := [(32, 0), (33, 1), (31, 2), (34, 3), (35, 4), (1, 5), (2, 7)]
theorem sbKn3 : slotsB slotsKn3 = true := by kernel_rfl
theorem chkKn3 : flwO slotsKn3 waitKn3 6 (regOf Tryd.f3.body 3) = true := by kernel_rfl
def waitKn4 (i : Nat) : List Nat := ([[], [0], [1], [1], [], [0, 1, 2, 3, 4], [0, 1, 2, 3, 4, 5]] : List (List Nat)).getD i []
def slotsKn4 : List (Nat × Nat) := [(37, 0), (36, 1), (38, 2), (39, 3), (3, 4), (4, 6)]
theorem sbKn4 : slotsB slotsKn4 = true := by kernel_rfl
theorem chkKn4 : flwO slotsKn4 waitKn4 5 (regOf Tryd.f3.body 4) = true := by kernel_rfl
def waitKn5 (i : Nat) : List Nat := ([[], [0], [1], [2], [2], [], [0, 1, 2, 3, 4, 5], [0, 1, 2, 3, 4, 5, 6]] : List (List Nat)).getD i []
def slotsKn5 : List (Nat × Nat) := [(41, 0), (42, 1), (40, 2), (43, 3), (44, 4), (5, 5), (6, 7)]
theorem sbKn5 : slotsB slotsKn5 = true := by kernel_rfl
theorem chkKn5 : flwO slotsKn5 waitKn5 6 (regOf Tryd.f3.body 5) = true := by kernel_rfl
def waitKn6 (i : Nat) : List Nat := ([[], [0], [1], [2], [3], [3], [], [0, 1, 2, 3, 4, 5, 6], [0, 1, 2, 3, 4, 5, 6, 7]] : List (List Nat)).getD i []
def slotsKn6 : List (Nat × Nat) := [(46, 0), (47, 1), (48, 2), (45, 3), (49, 4), (50, 5), (7, 6), (8, 8)]
theorem sbKn6 : slotsB slotsKn6 = true := by kernel_rfl
theorem chkKn6 : flwO slotsKn6 waitKn6 7 (regOf Tryd.f3.body 6) = true := by kernel_rfl
def waitKn7 (i : Nat) : List Nat := ([[], [0], [1], [2], [2], [], [0, 1, 2, 3, 4, 5], [0, 1, 2, 3, 4, 5, 6]] : List (List Nat)).getD i []
def slotsKn7 : List (Nat × Nat) := [(52, 0), (53, 1), (51, 2), (54, 3), (55, 4), (9, 5), (10, 7)]
theorem sbKn7 : slotsB slotsKn7 = true := by kernel_rfl
theorem chkKn7 : flwO slotsKn7 waitKn7 6 (regOf Tryd.f3.body 7) = true := by kernel_rfl
def waitKn8 (i : Nat) : List Nat := ([[], [], [1], [0, 2], [3], [4], [4], [4], [5], [6], [7]] : List (List Nat)).getD i []
def slotsKn8 : List (Nat × Nat) := [(57, 0), (58, 1), (59, 2), (60, 3), (56, 4), (61, 5), (62, 6), (63, 7), (11, 8), (12, 9), (13, 10)]
theorem sbKn8 : slotsB slotsKn8 = true := by kernel_rfl
theorem chkKn8 : flwB slotsKn8 waitKn8 11 (regOf Tryd.f3.body 8) = true := by kernel_rfl
def waitKn9 (i : Nat) : List Nat := ([[], [], [1], [0, 2], [3], [4], [4], [4], [5], [6], [7]] : List (List Nat)).getD i []
def slotsKn9 : List (Nat × Nat) := [(65, 0), (66, 1), (67, 2), (68, 3), (64, 4), (69, 5), (70, 6), (71, 7), (14, 8), (15, 9), (16, 10)]
theorem sbKn9 : slotsB slotsKn9 = true := by kernel_rfl
theorem chkKn9 : flwB slotsKn9 waitKn9 11 (regOf Tryd.f3.body 9) = true := by kernel_rfl
def waitKn10 (i : Nat) : List Nat := ([[], [], [], [1, 2], [0, 3], [4], [5], [5], [5], [6], [7], [8]] : List (List Nat)).getD i []
def slotsKn10 : List (Nat × Nat) := [(73, 0), (74, 1), (75, 2), (76, 3), (77, 4), (72, 5), (78, 6), (79, 7), (80, 8), (17, 9), (18, 10), (19, 11)]
theorem sbKn10 : slotsB slotsKn10 = true := by kernel_rfl
theorem chkKn10 : flwO slotsKn10 waitKn10 12 (regOf Tryd.f3.body 10) = true := by kernel_rfl
def waitKn11 (i : Nat) : List Nat := ([[], [], [1], [2], [3], [0, 4], [], [0, 1, 2, 3, 4, 5, 6]] : List (List Nat)).getD i []
def slotsKn11 : List (Nat × Nat) := [(81, 0), (82, 1), (83, 2), (84, 3), (85, 4), (86, 5), (20, 6)]
theorem sbKn11 : slotsB slotsKn11 = true := by kernel_rfl
theorem chkKn11 : flwB slotsKn11 waitKn11 7 (regOf Tryd.f3.body 11) = true := by kernel_rfl
def waitKn12 (i : Nat) : List Nat := ([[], [0], [1], [2], [2], [], [0, 1, 2, 3, 4, 5], [0, 1, 2, 3, 4, 5, 6]] : List (List Nat)).getD i []
def slotsKn12 : List (Nat × Nat) := [(88, 0), (89, 1), (87, 2), (90, 3), (91, 4), (21, 5), (22, 7)]
theorem sbKn12 : slotsB slotsKn12 = true := by kernel_rfl
theorem chkKn12 : flwO slotsKn12 waitKn12 6 (regOf Tryd.f3.body 12) = true := by kernel_rfl
def waitKn13 (i : Nat) : List Nat := ([[], [0], [1], [2], [2], [2], [3], [4], [5]] : List (List Nat)).getD i []
def slotsKn13 : List (Nat × Nat) := [(93, 0), (94, 1), (92, 2), (95, 3), (96, 4), (97, 5), (23, 6), (24, 7), (25, 8)]
theorem sbKn13 : slotsB slotsKn13 = true := by kernel_rfl
theorem chkKn13 : flwO slotsKn13 waitKn13 9 (regOf Tryd.f3.body 13) = true := by kernel_rfl
def waitKn14 (i : Nat) : List Nat := ([[], [], [0, 1]] : List (List Nat)).getD i []
def slotsKn14 : List (Nat × Nat) := [(98, 0), (26, 1)]
theorem chkKn14 : flwO slotsKn14 waitKn14 2 (regOf Tryd.f3.body 14) = true := by kernel_rfl
def waitKn15 (i : Nat) : List Nat := ([[], [], [1], [0, 2], [], [0, 1, 2, 3, 4]] : List (List Nat)).getD i []
def slotsKn15 : List (Nat × Nat) := [(99, 0), (100, 1), (101, 2), (102, 3), (103, 4)]
theorem sbKn15 : slotsB slotsKn15 = true := by kernel_rfl
theorem chkKn15 : flwO slotsKn15 waitKn15 5 (regOf Tryd.f3.body 15) = true := by kernel_rfl
def waitKn16 (i : Nat) : List Nat := ([[], [0], [], [1], [0, 1, 2, 3]] : List (List Nat)).getD i []
def slotsKn16 : List (Nat × Nat) := [(104, 0), (105, 1), (106, 2), (107, 3)]
theorem sbKn16 : slotsB slotsKn16 = true := by kernel_rfl
theorem chkKn16 : flwO slotsKn16 waitKn16 4 (regOf Tryd.f3.body 16) = true := by kernel_rfl
def waitKn17 (i : Nat) : List Nat := ([[], [0], [1], [2], [2], [], [0, 1, 2, 3, 4, 5], [0, 1, 2, 3, 4, 5, 6]] : List (List Nat)).getD i []
def slotsKn17 : List (Nat × Nat) := [(109, 0), (110, 1), (108, 2), (111, 3), (112, 4), (27, 5), (28, 7)]
theorem sbKn17 : slotsB slotsKn17 = true := by kernel_rfl
theorem chkKn17 : flwO slotsKn17 waitKn17 6 (regOf Tryd.f3.body 17) = true := by kernel_rfl
def waitKn18 (i : Nat) : List Nat := ([[], [0], [1], [2], [2, 3], [2, 4], [5], [6], [6, 7], [6, 8], [6, 9], [6, 10], [11], [12], [12, 13], [12, 14], [12, 15], [12, 16], [17], [18], [18, 19], [18, 20], [18, 21], [22], [23], [23, 24], [23, 25], [26], [27], [27, 28], [27, 29], [27, 30], [27, 31], [32], [33], [33, 34], [33, 35], [33], [33, 37], [33, 36, 38], [33, 39], [40], [41], [41, 42], [41, 43], [44], [45], [45, 46], [45, 47], [48], [49], [49, 50], [49, 51], [49, 52], [53], [54], [54, 55], [54, 56], [54, 57], [58], [59], [59, 60], [59, 61], [62], [63], [63, 64], [63, 65], [66], [67], [67, 68], [67, 69], [67, 70], [67, 71], [72], [73], [73, 74], [73, 75], [73, 76], [73, 77], [78], [79], [79, 80], [79, 81], [82], [83], [83, 84], [83, 85], [86]] : List (List Nat)).getD i []
def slotsKn18 : List (Nat × Nat) := [(113, 0), (114, 1), (115, 2), (116, 3), (117, 4), (118, 5), (119, 6), (120, 7), (121, 8), (122, 9), (123, 10), (124, 11), (125, 12), (126, 13), (127, 14), (128, 15), (129, 16), (130, 17), (131, 18), (132, 19), (133, 20), (134, 21), (135, 22), (136, 23), (137, 24), (138, 25), (139, 26), (140, 27), (141, 28), (142, 29), (143, 30), (144, 31), (145, 32), (146, 33), (147, 34), (148, 35), (149, 36), (150, 37), (151, 38), (152, 39), (153, 40), (154, 41), (155, 42), (156, 43), (157, 44), (158, 45), (159, 46), (160, 47), (161, 48), (162, 49), (163, 50), (164, 51), (165, 52), (166, 53), (167, 54), (168, 55), (169, 56), (170, 57), (171, 58), (172, 59), (173, 60), (174, 61), (175, 62), (176, 63), (177, 64), (178, 65), (179, 66), (180, 67), (181, 68), (182, 69), (183, 70), (184, 71), (185, 72), (186, 73), (187, 74), (188, 75), (189, 76), (190, 77), (191, 78), (192, 79), (193, 80), (194, 81), (195, 82), (196, 83), (197, 84), (198, 85), (199, 86), (0, 87)]
theorem sbKn18 : slotsB slotsKn18 = true := by kernel_rfl
theorem chkKn18 : flwB slotsKn18 waitKn18 88 (regOf Tryd.f3.body 18) = true := by kernel_rfl
set_option maxHeartbeats 32000000 in
set_option maxRecDepth 100000 in
theorem peelKnown_b  (w w0 : World) (hB : Below w.heap.size w w0) (hL : Laid w) : Calls Tryd.prog 3 #[] w0 fun e w' => (∃ v, e = .returned v ∧ v = .bool true) ∧ Below w.heap.size w w' := by
 go_enter Tryd.func3, Tryd.ntmps3
 have HB := Lib.hid hB
 clear hB
 have HL := Lib.hid hL
 have HSZ := Lib.hid hL.size
 clear hL
 go_upto_region 0 with fail
 refine wp_region_lit ?_
 try simp only [Act.put, List.setIfInBounds_toArray, List.set_cons_zero]
 refine lp_pure (v := .bool false) rfl (ex_assign _ rfl rfl) ?_
 try simp only [Act.put, List.setIfInBounds_toArray, List.set_cons_zero]
 refine wpList_nil ?_
 go_upto_region 1 with fail
 refine wp_act (fun a0 ha0 => ?_)
 have zsz : a0.tmps.size = 200 := by rw [ha0]; rfl
 refine wrO [] slotsKn1 waitKn1 [Fct.val Flz 0 (.bool true), Fct.val Flz 1 (.bool false)] (fun w' => Below w0.heap.size w0 w') _ 2 0 chkKn1 (by kernel_rfl) (by kernel_rfl) (by kernel_rfl) (by decide) (Below.refl _ _) ?_ ?_
 ·refine lt_s (lt_s (lt_0) ?_) ?_
  ·intro f w1 hS hf aA hA
   exact fC rfl rfl 8 #[] _ rfl #[] (by kernel_rfl) (fun w => by kernel_rfl) _ (awake16_any w1 (HL.out.keep (HB.out.trans (hS.mono HB.out.size)) HSZ.out)) hS (fun _ _ h => uS.trans h)
  ·intro f w1 hS hf aA hA
   have r29 := qA 29 0 hA sbKn1 zsz (hf 0 (by decide))
   exact fV rfl rfl _ (ex_not _ (.tmp 29) rfl r29) hS uS
 intro f u1 hS hf hap
 have h0 := eqL (hf 0 (by decide)) rfl
 have h1 := eqL (hf 1 (by decide)) rfl
 clear hf hap
 clear zsz
 subst ha0
 simp only [slotsKn1, putAll, h0, h1, Act.put, List.setIfInBounds_toArray, List.set_cons_zero, List.set_cons_succ]
 clear h0 h1
 refine tl_nil ?_
 replace HB := Lib.hid (HB.out.trans (hS.mono HB.out.size))
 clear hS
 go_upto_region 3 with fail
 refine wp_act (fun a0 ha0 => ?_)
 have zsz : a0.tmps.size = 200 := by rw [ha0]; rfl
 refine wrO [] slotsKn3 waitKn3 [Fct.val Flz 0 (.agg #[.int .u64 0, .slice none 0 0]), Fct.val Flz 1 (.tuple #[.agg #[.slice none 0 0, .slice none 0 0, .int .u64 0, .slice none 0 0], .int .i64 1]), Fct.val Flz 2 (.tuple #[.agg #[.slice none 0 0, .slice none 0 0, .int .u64 0, .slice none 0 0], .int .i64 1]), Fct.val Flz 3 (.agg #[.slice none 0 0, .slice none 0 0, .int .u64 0, .slice none 0 0]), Fct.val Flz 4 (.int .i64 1), Fct.obj 5 (fun v w => ∃ g, v = .pointer (some ⟨g, 0, none⟩) ∧ u1.heap.size ≤ g ∧ Has w g 30 ([.slice none 0 0, .slice none 0 0, .int .u64 0, .slice none 0 0])) (fun _ _ _ ⟨g, a, b, c⟩ he => ⟨g, a, b, c.flz he (by decide)⟩)] (fun w' => Below u1.heap.size u1 w') _ 6 2 chkKn3 (by kernel_rfl) (by kernel_rfl) (by kernel_rfl) (by decide) (Below.refl _ _) ?_ ?_
 ·refine lt_s (lt_s (lt_s (lt_s (lt_s (lt_s (lt_0) ?_) ?_) ?_) ?_) ?_) ?_
  ·intro f w1 hS hf aA hA
   exact fV rfl rfl _ (ex_build 28 _ rfl #[.int .u64 0, .slice none 0 0] [] (by kernel_rfl) builtT0) hS uS
  ·intro f w1 hS hf aA hA
   have r32 := qA 32 0 hA sbKn3 zsz (hf 0 (by decide))
   exact fC rfl rfl 9 #[(.tmp 32)] _ rfl #[.agg #[.int .u64 0, .slice none 0 0]] (mp1 r32) (fun w => by kernel_rfl) _ (allBad 0 _ (([] : List Ce)) w1 (by decide) (HL.out.keep (HB.out.trans (hS.mono HB.out.size)) HSZ.out) (Nat.zero_le _) (Cs.nil w1) (by decide)) hS (fun _ _ h => uS.trans h)
  ·intro f w1 hS hf aA hA
   have r33 := qA 33 1 hA sbKn3 zsz (hf 1 (by decide))
   exact fV rfl rfl _ (ex_move (.tmp 33) rfl r33) hS uS
  ·intro f w1 hS hf aA hA
   have r31 := qA 31 2 hA sbKn3 zsz (hf 2 (by decide))
   exact fV rfl rfl _ (ex_extract (.tmp 31) 0 rfl r31 rfl) hS uS
  ·intro f w1 hS hf aA hA
   have r31 := qA 31 2 hA sbKn3 zsz (hf 2 (by decide))
   exact fV rfl rfl _ (ex_extract (.tmp 31) 1 rfl r31 rfl) hS uS
  ·intro f w1 hS hf aA hA
   exact flw_wp rfl rfl (fun K hK => wp_alloc_row 30 rfl (.agg #[.slice none 0 0, .slice none 0 0, .int .u64 0, .slice none 0 0]) (fun w => by kernel_rfl) (hK _ _ (hS.alloc hS.size _) (Flz.al _ _) ⟨_, uS, hS.size, Has.made' _ _ _ _ rfl⟩))
 intro f x3 hS hf hap
 have h0 := eqL (hf 0 (by decide)) rfl
 have h1 := eqL (hf 1 (by decide)) rfl
 have h2 := eqL (hf 2 (by decide)) rfl
 have h3 := eqL (hf 3 (by decide)) rfl
 have h4 := eqL (hf 4 (by decide)) rfl
 obtain ⟨b3_5, h5, hgb5, hhb5⟩ := hf 5 (by decide)
 clear hf hap
 clear zsz
 subst ha0
 simp only [slotsKn3, putAll, h0, h1, h2, h3, h4, h5, Act.put, List.setIfInBounds_toArray, List.set_cons_zero, List.set_cons_succ]
 clear h0 h1 h2 h3 h4 h5
 refine tl_store rfl (by kernel_rfl) 30 (.tmp 1) (.tmp 34) rfl b3_5 ([.slice none 0 0, .slice none 0 0, .int .u64 0, .slice none 0 0]) _ rfl rfl _ hhb5 (by kernel_rfl) rfl (rs_ones rfl rfl _ rfl) ?_
 intro u3 hp5 hbl hot
 replace hS := hS.trans (hbl _ hgb5)
 clear hbl hot hhb5
 try simp only [Act.put]
 refine tl_pure rfl (by kernel_rfl) (.int .i64 1) (ex_assign (.tmp 35) rfl rfl) ?_
 try simp only [Act.put, List.setIfInBounds_toArray, List.set_cons_zero, List.set_cons_succ]
 refine tl_nil ?_
 have HBW := Lib.hid HB.out.size
 replace HB := Lib.hid (HB.out.trans (hS.mono HB.out.size))
 clear hS
 have HGb3_5 : Hid (w.heap.size ≤ b3_5) := Lib.hid (Nat.le_trans HBW.out hgb5)
 have HX_b3_5 : Hid (Has u3 b3_5 30 ([.slice none 0 0, .slice none 0 0, .int .u64 0, .slice none 0 0])) := Lib.hid hp5
 clear hp5 hgb5
 clear HBW
 go_upto_region 4 with fail
 refine wp_act (fun a0 ha0 => ?_)
 have zsz : a0.tmps.size = 200 := by rw [ha0]; rfl
 refine wrO [] slotsKn4 waitKn4 [Fct.obj 0 (fun v w => ∃ zz, v = .tuple #[.agg #[.int .u64 1, zz], .int .i64 0] ∧ Cs w zz (Z12)) (fun _ _ _ ⟨zz, a, b⟩ he => ⟨zz, a, b.flz he⟩), Fct.obj 1 (fun v w => ∃ zz, v = .tuple #[.agg #[.int .u64 1, zz], .int .i64 0] ∧ Cs w zz (Z12)) (fun _ _ _ ⟨zz, a, b⟩ he => ⟨zz, a, b.flz he⟩), Fct.obj 2 (fun v w => ∃ zz, v = .agg #[.int .u64 1, zz] ∧ Cs w zz (Z12)) (fun _ _ _ ⟨zz, a, b⟩ he => ⟨zz, a, b.flz he⟩), Fct.val Flz 3 (.int .i64 0), Fct.obj 4 (fun v w => ∃ g, v = .pointer (some ⟨g, 0, none⟩) ∧ u3.heap.size ≤ g ∧ Has w g 28 ([.int .u64 0, .slice none 0 0])) (fun _ _ _ ⟨g, a, b, c⟩ he => ⟨g, a, b, c.flz he (by decide)⟩)] (fun w' => Below u3.heap.size u3 w') _ 5 2 chkKn4 (by kernel_rfl) (by kernel_rfl) (by kernel_rfl) (by decide) (Below.refl _ _) ?_ ?_
 ·refine lt_s (lt_s (lt_s (lt_s (lt_s (lt_0) ?_) ?_) ?_) ?_) ?_
  ·intro f w1 hS hf aA hA
   exact fC rfl rfl 10 #[_, _] _ rfl #[.int .u64 1, .int .i64 12] (by simp only [List.map_toArray, List.map_cons, List.map_nil, ]; rfl) (fun w => by kernel_rfl) _ (newC_t 1 12 12 (by decide) rfl w1) hS (fun _ _ ⟨zz, a, b⟩ => ⟨zz, uS.trans a, b⟩)
  ·intro f w1 hS hf aA hA
   obtain ⟨x37, hx37, hr37⟩ := hf 0 (by decide)
   have e37 := pA 37 0 hA sbKn4 (by kernel_rfl) zsz rfl hx37
   exact flw_val rfl rfl (.tuple #[.agg #[.int .u64 1, x37], .int .i64 0]) (ex_move (.tmp 37) rfl e37) hS (Flz.refl _) ⟨x37, uS, hr37⟩
  ·intro f w1 hS hf aA hA
   obtain ⟨x36, hx36, hr36⟩ := hf 1 (by decide)
   have e36 := pA 36 1 hA sbKn4 (by kernel_rfl) zsz rfl hx36
   exact flw_val rfl rfl (.agg #[.int .u64 1, x36]) (ex_extract (.tmp 36) 0 rfl e36 rfl) hS (Flz.refl _) ⟨x36, uS, hr36⟩
  ·intro f w1 hS hf aA hA
   obtain ⟨x36, hx36, hr36⟩ := hf 1 (by decide)
   have e36 := pA 36 1 hA sbKn4 (by kernel_rfl) zsz rfl hx36
   exact fV rfl rfl _ (ex_extract (.tmp 36) 1 rfl e36 rfl) hS uS
  ·intro f w1 hS hf aA hA
   exact flw_wp rfl rfl (fun K hK => wp_alloc_row 28 rfl (.agg #[.int .u64 0, .slice none 0 0]) (fun w => by kernel_rfl) (hK _ _ (hS.alloc hS.size _) (Flz.al _ _) ⟨_, uS, hS.size, Has.made' _ _ _ _ rfl⟩))
 intro f x4 hS hf hap
 obtain ⟨v4_0, h0, -⟩ := hf 0 (by decide)
 obtain ⟨v4_1, h1, -⟩ := hf 1 (by decide)
 obtain ⟨v4_2, h2, hu2⟩ := hf 2 (by decide)
 have HU4_2 := Lib.hid hu2
 clear hu2
 have h3 := eqL (hf 3 (by decide)) rfl
 obtain ⟨b4_4, h4, hgb4, hhb4⟩ := hf 4 (by decide)
 clear hf hap
 clear zsz
 subst ha0
 simp only [slotsKn4, putAll, h0, h1, h2, h3, h4, Act.put, List.setIfInBounds_toArray, List.set_cons_zero, List.set_cons_succ]
 clear h0 h1 h2 h3 h4
 refine tl_store rfl (by kernel_rfl) 28 (.tmp 3) (.tmp 38) rfl b4_4 ([.int .u64 1, v4_2]) _ rfl rfl _ hhb4 (by kernel_rfl) rfl (tb_ones _ HU4_2.out.one) ?_
 intro u4 hp4 hbl hot
 replace hS := hS.trans (hbl _ hgb4)
 replace HU4_2 := Lib.hid (HU4_2.out.hotb hhb4 ⟨_, _, _, rfl⟩ (by decide) (hbl 0 (Nat.zero_le _)).size hot)
 clear hbl hot hhb4
 try simp only [Act.put]
 refine tl_pure rfl (by kernel_rfl) (.int .i64 0) (ex_assign (.tmp 39) rfl rfl) ?_
 try simp only [Act.put, List.setIfInBounds_toArray, List.set_cons_zero, List.set_cons_succ]
 refine tl_nil ?_
 replace HX_b3_5 := Lib.hid (HX_b3_5.out.keepB hS)
 have HBW := Lib.hid HB.out.size
 replace HB := Lib.hid (HB.out.trans (hS.mono HB.out.size))
 clear hS
 have HGb4_4 : Hid (w.heap.size ≤ b4_4) := Lib.hid (Nat.le_trans HBW.out hgb4)
 have HX_b4_4 : Hid (Has u4 b4_4 28 ([.int .u64 1, v4_2])) := Lib.hid hp4
 clear hp4 hgb4
 clear HBW
 go_upto_region 5 with fail
 refine wp_act (fun a0 ha0 => ?_)
 have zsz : a0.tmps.size = 200 := by rw [ha0]; rfl
 have z3 : a0.eval (.tmp 3) = .pointer (some ⟨b4_4, 0, none⟩) := by rw [ha0]; rfl
 refine wrO [] slotsKn5 waitKn5 [Fct.val Flz 0 (.agg #[.int .u64 1, v4_2]), Fct.obj 1 (fun v w => ∃ zz, v = .tuple #[.agg #[(fl zz 0), (fl zz 1), .int .u64 1, (fl zz 2)], .int .i64 0] ∧ ResR (([] : List Su)) (([] : List Su)) (Z12) w zz) (fun _ _ _ ⟨zz, a, b⟩ he => ⟨zz, a, b.flz he⟩), Fct.obj 2 (fun v w => ∃ zz, v = .tuple #[.agg #[(fl zz 0), (fl zz 1), .int .u64 1, (fl zz 2)], .int .i64 0] ∧ ResR (([] : List Su)) (([] : List Su)) (Z12) w zz) (fun _ _ _ ⟨zz, a, b⟩ he => ⟨zz, a, b.flz he⟩), Fct.obj 3 (fun v w => ∃ zz, v = .agg #[(fl zz 0), (fl zz 1), .int .u64 1, (fl zz 2)] ∧ ResR (([] : List Su)) (([] : List Su)) (Z12) w zz) (fun _ _ _ ⟨zz, a, b⟩ he => ⟨zz, a, b.flz he⟩), Fct.val Flz 4 (.int .i64 0), Fct.obj 5 (fun v w => ∃ g, v = .pointer (some ⟨g, 0, none⟩) ∧ u4.heap.size ≤ g ∧ Has w g 30 ([.slice none 0 0, .slice none 0 0, .int .u64 0, .slice none 0 0])) (fun _ _ _ ⟨g, a, b, c⟩ he => ⟨g, a, b, c.flz he (by decide)⟩)] (fun w' => Below u4.heap.size u4 w') _ 6 2 chkKn5 (by kernel_rfl) (by kernel_rfl) (by kernel_rfl) (by decide) (Below.refl _ _) ?_ ?_
 ·refine lt_s (lt_s (lt_s (lt_s (lt_s (lt_s (lt_0) ?_) ?_) ?_) ?_) ?_) ?_
  ·intro f w1 hS hf aA hA
   have r3 := qO 3 hA z3
   exact fV rfl rfl _ (ex_loadR 28 (.tmp 3) rfl ⟨b4_4, 0, none⟩ r3 (fun _ => by kernel_rfl) [.int .u64 1, v4_2] (by kernel_rfl) ((HX_b4_4.out.keepB hS).part [.int .u64 1, v4_2] 0 (fun j u hu => by rw [Nat.zero_add]; exact hu))) hS uS
  ·intro f w1 hS hf aA hA
   have r41 := qA 41 0 hA sbKn5 zsz (hf 0 (by decide))
   exact fC rfl rfl 9 #[(.tmp 41)] _ rfl #[.agg #[.int .u64 1, v4_2]] (mp1 r41) (fun w => by kernel_rfl) _ (allQ true 0 (([] : List Su)) (([] : List Su)) 1 _ (Z12) (Z12, [], []) (peel_zero 1 12) (okP_of (m := 12) (by decide) [] [] (by simp)) rfl rfl rfl w1 (by decide) (HL.out.keep (HB.out.trans (hS.mono HB.out.size)) HSZ.out) (by decide) (by decide) (HU4_2.out.keep hS)) hS (fun _ _ ⟨zz, a, b⟩ => ⟨zz, uS.trans a, b⟩)
  ·intro f w1 hS hf aA hA
   obtain ⟨x42, hx42, hr42⟩ := hf 1 (by decide)
   have e42 := pA 42 1 hA sbKn5 (by kernel_rfl) zsz rfl hx42
   exact flw_val rfl rfl (.tuple #[.agg #[(fl x42 0), (fl x42 1), .int .u64 1, (fl x42 2)], .int .i64 0]) (ex_move (.tmp 42) rfl e42) hS (Flz.refl _) ⟨x42, uS, hr42⟩
  ·intro f w1 hS hf aA hA
   obtain ⟨x40, hx40, hr40⟩ := hf 2 (by decide)
   have e40 := pA 40 2 hA sbKn5 (by kernel_rfl) zsz rfl hx40
   exact flw_val rfl rfl (.agg #[(fl x40 0), (fl x40 1), .int .u64 1, (fl x40 2)]) (ex_extract (.tmp 40) 0 rfl e40 rfl) hS (Flz.refl _) ⟨x40, uS, hr40⟩
  ·intro f w1 hS hf aA hA
   obtain ⟨x40, hx40, hr40⟩ := hf 2 (by decide)
   have e40 := pA 40 2 hA sbKn5 (by kernel_rfl) zsz rfl hx40
   exact fV rfl rfl _ (ex_extract (.tmp 40) 1 rfl e40 rfl) hS uS
  ·intro f w1 hS hf aA hA
   exact flw_wp rfl rfl (fun K hK => wp_alloc_row 30 rfl (.agg #[.slice none 0 0, .slice none 0 0, .int .u64 0, .slice none 0 0]) (fun w => by kernel_rfl) (hK _ _ (hS.alloc hS.size _) (Flz.al _ _) ⟨_, uS, hS.size, Has.made' _ _ _ _ rfl⟩))
 intro f x5 hS hf hap
 have h0 := eqL (hf 0 (by decide)) rfl
 obtain ⟨v5_1, h1, -⟩ := hf 1 (by decide)
 obtain ⟨v5_2, h2, -⟩ := hf 2 (by decide)
 obtain ⟨v5_3, h3, hu3⟩ := hf 3 (by decide)
 have HU5_3 := Lib.hid hu3
 clear hu3
 have h4 := eqL (hf 4 (by decide)) rfl
 obtain ⟨b5_5, h5, hgb5, hhb5⟩ := hf 5 (by decide)
 clear hf hap
 clear zsz z3
 subst ha0
 simp only [slotsKn5, putAll, h0, h1, h2, h3, h4, h5, Act.put, List.setIfInBounds_toArray, List.set_cons_zero, List.set_cons_succ]
 clear h0 h1 h2 h3 h4 h5
 refine tl_store rfl (by kernel_rfl) 30 (.tmp 5) (.tmp 43) rfl b5_5 ([(fl v5_3 0), (fl v5_3 1), .int .u64 1, (fl v5_3 2)]) _ rfl rfl _ hhb5 (by kernel_rfl) rfl (rs_ones HU5_3.out.p.oneC HU5_3.out.m.oneC _ HU5_3.out.l.oneC) ?_
 intro u5 hp5 hbl hot
 replace hS := hS.trans (hbl _ hgb5)
 replace HU5_3 := Lib.hid (HU5_3.out.hotr hhb5 hot)
 clear hbl hot hhb5
 try simp only [Act.put]
 refine tl_pure rfl (by kernel_rfl) (.int .i64 0) (ex_assign (.tmp 44) rfl rfl) ?_
 try simp only [Act.put, List.setIfInBounds_toArray, List.set_cons_zero, List.set_cons_succ]
 refine tl_nil ?_
 replace HX_b3_5 := Lib.hid (HX_b3_5.out.keepB hS)
 replace HX_b4_4 := Lib.hid (HX_b4_4.out.keepB hS)
 replace HU4_2 := Lib.hid (HU4_2.out.keep hS)
 have HBW := Lib.hid HB.out.size
 replace HB := Lib.hid (HB.out.trans (hS.mono HB.out.size))
 clear hS
 have HGb5_5 : Hid (w.heap.size ≤ b5_5) := Lib.hid (Nat.le_trans HBW.out hgb5)
 have HX_b5_5 : Hid (Has u5 b5_5 30 ([(fl v5_3 0), (fl v5_3 1), .int .u64 1, (fl v5_3 2)])) := Lib.hid hp5
 clear hp5 hgb5
 clear HBW
 go_upto_region 6 with fail
 refine wp_act (fun a0 ha0 => ?_)
 have zsz : a0.tmps.size = 200 := by rw [ha0]; rfl
 refine wrO [] slotsKn6 waitKn6 [Fct.obj 0 (fun v w => Ins w v ([1, 2])) (fun _ _ _ h he => h.flzT he), Fct.obj 1 (fun v w => Us w v (Q12)) (fun _ _ _ h he => h.flz he), Fct.obj 2 (fun v w => ∃ zz, v = .tuple #[.agg #[.int .u64 1, zz], .int .i64 0] ∧ Cs w zz (T3)) (fun _ _ _ ⟨zz, a, b⟩ he => ⟨zz, a, b.flz he⟩), Fct.obj 3 (fun v w => ∃ zz, v = .tuple #[.agg #[.int .u64 1, zz], .int .i64 0] ∧ Cs w zz (T3)) (fun _ _ _ ⟨zz, a, b⟩ he => ⟨zz, a, b.flz he⟩), Fct.obj 4 (fun v w => ∃ zz, v = .agg #[.int .u64 1, zz] ∧ Cs w zz (T3)) (fun _ _ _ ⟨zz, a, b⟩ he => ⟨zz, a, b.flz he⟩), Fct.val Flz 5 (.int .i64 0), Fct.obj 6 (fun v w => ∃ g, v = .pointer (some ⟨g, 0, none⟩) ∧ u5.heap.size ≤ g ∧ Has w g 28 ([.int .u64 0, .slice none 0 0])) (fun _ _ _ ⟨g, a, b, c⟩ he => ⟨g, a, b, c.flz he (by decide)⟩)] (fun w' => Below u5.heap.size u5 w') _ 7 2 chkKn6 (by kernel_rfl) (by kernel_rfl) (by kernel_rfl) (by decide) (Below.refl _ _) ?_ ?_
 ·refine lt_s (lt_s (lt_s (lt_s (lt_s (lt_s (lt_s (lt_0) ?_) ?_) ?_) ?_) ?_) ?_) ?_
  ·intro f w1 hS hf aA hA
   exact flw_wp rfl rfl (fun K hK => wp_lit_ints9 2 _ rfl (([1, 2] : List Int).map fun n => Value.int .i64 n).toArray (by decide) (by decide) (by kernel_rfl) (hK _ _ (hS.alloc hS.size _) (Flz.al _ _) (show Ins _ (updF f 0 _ 0) [1, 2] by rw [updF_self]; exact Ins.litE9 _ _ 2 rfl)))
  ·intro f w1 hS hf aA hA
   have hu0 : Ins w1 (f 0) ([1, 2]) := (hf 0 (by decide))
   have e46 := pA 46 0 hA sbKn6 (by kernel_rfl) zsz rfl rfl
   exact flw_call rfl rfl 12 #[(.tmp 46)] _ rfl #[f 0] (mp1 e46) (fun w => by kernel_rfl) (fun v w' => Us w' v (Q12)) (few16_us _ ([1, 2]) w1 (HL.out.keep (HB.out.trans (hS.mono HB.out.size)) HSZ.out) (by decide) hu0) (fun v w' hr hb => ⟨hS.trans (hb.mono hS.size), Flz.of hb, (show Us w' (updF f 1 v 1) (Q12) by rw [updF_self]; exact hr)⟩)
  ·intro f w1 hS hf aA hA
   have hu1 : Us w1 (f 1) (Q12) := (hf 1 (by decide))
   have e47 := pA 47 1 hA sbKn6 (by kernel_rfl) zsz rfl rfl
   exact fC rfl rfl 11 #[_, _, (.tmp 47)] _ rfl #[.int .u64 1, .int .i64 3, f 1] (by simp only [List.map_toArray, List.map_cons, List.map_nil, e47]; rfl) (fun w => by kernel_rfl) _ (ofA_t 1 3 3 _ Q12 (by decide) rfl (asc_few [1, 2]) w1 (by decide) (HL.out.keep (HB.out.trans (hS.mono HB.out.size)) HSZ.out) (len_few [1, 2] 10000 (by decide)) hu1) hS (fun _ _ ⟨zz, a, b⟩ => ⟨zz, uS.trans a, b⟩)
  ·intro f w1 hS hf aA hA
   obtain ⟨x48, hx48, hr48⟩ := hf 2 (by decide)
   have e48 := pA 48 2 hA sbKn6 (by kernel_rfl) zsz rfl hx48
   exact flw_val rfl rfl (.tuple #[.agg #[.int .u64 1, x48], .int .i64 0]) (ex_move (.tmp 48) rfl e48) hS (Flz.refl _) ⟨x48, uS, hr48⟩
  ·intro f w1 hS hf aA hA
   obtain ⟨x45, hx45, hr45⟩ := hf 3 (by decide)
   have e45 := pA 45 3 hA sbKn6 (by kernel_rfl) zsz rfl hx45
   exact flw_val rfl rfl (.agg #[.int .u64 1, x45]) (ex_extract (.tmp 45) 0 rfl e45 rfl) hS (Flz.refl _) ⟨x45, uS, hr45⟩
  ·intro f w1 hS hf aA hA
   obtain ⟨x45, hx45, hr45⟩ := hf 3 (by decide)
   have e45 := pA 45 3 hA sbKn6 (by kernel_rfl) zsz rfl hx45
   exact fV rfl rfl _ (ex_extract (.tmp 45) 1 rfl e45 rfl) hS uS
  ·intro f w1 hS hf aA hA
   exact flw_wp rfl rfl (fun K hK => wp_alloc_row 28 rfl (.agg #[.int .u64 0, .slice none 0 0]) (fun w => by kernel_rfl) (hK _ _ (hS.alloc hS.size _) (Flz.al _ _) ⟨_, uS, hS.size, Has.made' _ _ _ _ rfl⟩))
 intro f x6 hS hf hap
 obtain ⟨v6_0, h0, hu0⟩ : ∃ v, f 0 = v ∧ Ins x6 v ([1, 2]) := ⟨_, rfl, (hf 0 (by decide))⟩
 clear hu0
 obtain ⟨v6_1, h1, hu1⟩ : ∃ v, f 1 = v ∧ Us x6 v (Q12) := ⟨_, rfl, (hf 1 (by decide))⟩
 clear hu1
 obtain ⟨v6_2, h2, -⟩ := hf 2 (by decide)
 obtain ⟨v6_3, h3, -⟩ := hf 3 (by decide)
 obtain ⟨v6_4, h4, hu4⟩ := hf 4 (by decide)
 have HU6_4 := Lib.hid hu4
 clear hu4
 have h5 := eqL (hf 5 (by decide)) rfl
 obtain ⟨b6_6, h6, hgb6, hhb6⟩ := hf 6 (by decide)
 clear hf hap
 clear zsz
 subst ha0
 simp only [slotsKn6, putAll, h0, h1, h2, h3, h4, h5, h6, Act.put, List.setIfInBounds_toArray, List.set_cons_zero, List.set_cons_succ]
 clear h0 h1 h2 h3 h4 h5 h6
 refine tl_store rfl (by kernel_rfl) 28 (.tmp 7) (.tmp 49) rfl b6_6 ([.int .u64 1, v6_4]) _ rfl rfl _ hhb6 (by kernel_rfl) rfl (tb_ones _ HU6_4.out.one) ?_
 intro u6 hp6 hbl hot
 replace hS := hS.trans (hbl _ hgb6)
 replace HU6_4 := Lib.hid (HU6_4.out.hotb hhb6 ⟨_, _, _, rfl⟩ (by decide) (hbl 0 (Nat.zero_le _)).size hot)
 clear hbl hot hhb6
 try simp only [Act.put]
 refine tl_pure rfl (by kernel_rfl) (.int .i64 0) (ex_assign (.tmp 50) rfl rfl) ?_
 try simp only [Act.put, List.setIfInBounds_toArray, List.set_cons_zero, List.set_cons_succ]
 refine tl_nil ?_
 replace HX_b3_5 := Lib.hid (HX_b3_5.out.keepB hS)
 replace HX_b4_4 := Lib.hid (HX_b4_4.out.keepB hS)
 replace HU4_2 := Lib.hid (HU4_2.out.keep hS)
 replace HX_b5_5 := Lib.hid (HX_b5_5.out.keepB hS)
 replace HU5_3 := Lib.hid (HU5_3.out.keep hS)
 have HBW := Lib.hid HB.out.size
 replace HB := Lib.hid (HB.out.trans (hS.mono HB.out.size))
 clear hS
 have HGb6_6 : Hid (w.heap.size ≤ b6_6) := Lib.hid (Nat.le_trans HBW.out hgb6)
 have HX_b6_6 : Hid (Has u6 b6_6 28 ([.int .u64 1, v6_4])) := Lib.hid hp6
 clear hp6 hgb6
 clear HBW
 go_upto_region 7 with fail
 refine wp_act (fun a0 ha0 => ?_)
 have zsz : a0.tmps.size = 200 := by rw [ha0]; rfl
 have z7 : a0.eval (.tmp 7) = .pointer (some ⟨b6_6, 0, none⟩) := by rw [ha0]; rfl
 refine wrO [] slotsKn7 waitKn7 [Fct.val Flz 0 (.agg #[.int .u64 1, v6_4]), Fct.obj 1 (fun v w => ∃ zz, v = .tuple #[.agg #[(fl zz 0), (fl zz 1), .int .u64 1, (fl zz 2)], .int .i64 10] ∧ ResR (([] : List Su)) (([] : List Su)) (T3) w zz) (fun _ _ _ ⟨zz, a, b⟩ he => ⟨zz, a, b.flz he⟩), Fct.obj 2 (fun v w => ∃ zz, v = .tuple #[.agg #[(fl zz 0), (fl zz 1), .int .u64 1, (fl zz 2)], .int .i64 10] ∧ ResR (([] : List Su)) (([] : List Su)) (T3) w zz) (fun _ _ _ ⟨zz, a, b⟩ he => ⟨zz, a, b.flz he⟩), Fct.obj 3 (fun v w => ∃ zz, v = .agg #[(fl zz 0), (fl zz 1), .int .u64 1, (fl zz 2)] ∧ ResR (([] : List Su)) (([] : List Su)) (T3) w zz) (fun _ _ _ ⟨zz, a, b⟩ he => ⟨zz, a, b.flz he⟩), Fct.val Flz 4 (.int .i64 10), Fct.obj 5 (fun v w => ∃ g, v = .pointer (some ⟨g, 0, none⟩) ∧ u6.heap.size ≤ g ∧ Has w g 30 ([.slice none 0 0, .slice none 0 0, .int .u64 0, .slice none 0 0])) (fun _ _ _ ⟨g, a, b, c⟩ he => ⟨g, a, b, c.flz he (by decide)⟩)] (fun w' => Below u6.heap.size u6 w') _ 6 2 chkKn7 (by kernel_rfl) (by kernel_rfl) (by kernel_rfl) (by decide) (Below.refl _ _) ?_ ?_
 ·refine lt_s (lt_s (lt_s (lt_s (lt_s (lt_s (lt_0) ?_) ?_) ?_) ?_) ?_) ?_
  ·intro f w1 hS hf aA hA
   have r7 := qO 7 hA z7
   exact fV rfl rfl _ (ex_loadR 28 (.tmp 7) rfl ⟨b6_6, 0, none⟩ r7 (fun _ => by kernel_rfl) [.int .u64 1, v6_4] (by kernel_rfl) ((HX_b6_6.out.keepB hS).part [.int .u64 1, v6_4] 0 (fun j u hu => by rw [Nat.zero_add]; exact hu))) hS uS
  ·intro f w1 hS hf aA hA
   have r52 := qA 52 0 hA sbKn7 zsz (hf 0 (by decide))
   exact fC rfl rfl 9 #[(.tmp 52)] _ rfl #[.agg #[.int .u64 1, v6_4]] (mp1 r52) (fun w => by kernel_rfl) _ (allQ false 10 (([] : List Su)) (([] : List Su)) 1 _ (T3) (T3, [], []) T3_peel T3_no rfl rfl rfl w1 (by decide) (HL.out.keep (HB.out.trans (hS.mono HB.out.size)) HSZ.out) (by rw [T3_len]; decide) (by rw [T3_len]; decide) (HU6_4.out.keep hS)) hS (fun _ _ ⟨zz, a, b⟩ => ⟨zz, uS.trans a, b⟩)
  ·intro f w1 hS hf aA hA
   obtain ⟨x53, hx53, hr53⟩ := hf 1 (by decide)
   have e53 := pA 53 1 hA sbKn7 (by kernel_rfl) zsz rfl hx53
   exact flw_val rfl rfl (.tuple #[.agg #[(fl x53 0), (fl x53 1), .int .u64 1, (fl x53 2)], .int .i64 10]) (ex_move (.tmp 53) rfl e53) hS (Flz.refl _) ⟨x53, uS, hr53⟩
  ·intro f w1 hS hf aA hA
   obtain ⟨x51, hx51, hr51⟩ := hf 2 (by decide)
   have e51 := pA 51 2 hA sbKn7 (by kernel_rfl) zsz rfl hx51
   exact flw_val rfl rfl (.agg #[(fl x51 0), (fl x51 1), .int .u64 1, (fl x51 2)]) (ex_extract (.tmp 51) 0 rfl e51 rfl) hS (Flz.refl _) ⟨x51, uS, hr51⟩
  ·intro f w1 hS hf aA hA
   obtain ⟨x51, hx51, hr51⟩ := hf 2 (by decide)
   have e51 := pA 51 2 hA sbKn7 (by kernel_rfl) zsz rfl hx51
   exact fV rfl rfl _ (ex_extract (.tmp 51) 1 rfl e51 rfl) hS uS
  ·intro f w1 hS hf aA hA
   exact flw_wp rfl rfl (fun K hK => wp_alloc_row 30 rfl (.agg #[.slice none 0 0, .slice none 0 0, .int .u64 0, .slice none 0 0]) (fun w => by kernel_rfl) (hK _ _ (hS.alloc hS.size _) (Flz.al _ _) ⟨_, uS, hS.size, Has.made' _ _ _ _ rfl⟩))
 intro f x7 hS hf hap
 have h0 := eqL (hf 0 (by decide)) rfl
 obtain ⟨v7_1, h1, -⟩ := hf 1 (by decide)
 obtain ⟨v7_2, h2, -⟩ := hf 2 (by decide)
 obtain ⟨v7_3, h3, hu3⟩ := hf 3 (by decide)
 have HU7_3 := Lib.hid hu3
 clear hu3
 have h4 := eqL (hf 4 (by decide)) rfl
 obtain ⟨b7_5, h5, hgb5, hhb5⟩ := hf 5 (by decide)
 clear hf hap
 clear zsz z7
 subst ha0
 simp only [slotsKn7, putAll, h0, h1, h2, h3, h4, h5, Act.put, List.setIfInBounds_toArray, List.set_cons_zero, List.set_cons_succ]
 clear h0 h1 h2 h3 h4 h5
 refine tl_store rfl (by kernel_rfl) 30 (.tmp 9) (.tmp 54) rfl b7_5 ([(fl v7_3 0), (fl v7_3 1), .int .u64 1, (fl v7_3 2)]) _ rfl rfl _ hhb5 (by kernel_rfl) rfl (rs_ones HU7_3.out.p.oneC HU7_3.out.m.oneC _ HU7_3.out.l.oneC) ?_
 intro u7 hp5 hbl hot
 replace hS := hS.trans (hbl _ hgb5)
 replace HU7_3 := Lib.hid (HU7_3.out.hotr hhb5 hot)
 clear hbl hot hhb5
 try simp only [Act.put]
 refine tl_pure rfl (by kernel_rfl) (.int .i64 10) (ex_assign (.tmp 55) rfl rfl) ?_
 try simp only [Act.put, List.setIfInBounds_toArray, List.set_cons_zero, List.set_cons_succ]
 refine tl_nil ?_
 replace HX_b3_5 := Lib.hid (HX_b3_5.out.keepB hS)
 replace HX_b4_4 := Lib.hid (HX_b4_4.out.keepB hS)
 replace HU4_2 := Lib.hid (HU4_2.out.keep hS)
 replace HX_b5_5 := Lib.hid (HX_b5_5.out.keepB hS)
 replace HU5_3 := Lib.hid (HU5_3.out.keep hS)
 replace HX_b6_6 := Lib.hid (HX_b6_6.out.keepB hS)
 replace HU6_4 := Lib.hid (HU6_4.out.keep hS)
 have HBW := Lib.hid HB.out.size
 replace HB := Lib.hid (HB.out.trans (hS.mono HB.out.size))
 clear hS
 have HGb7_5 : Hid (w.heap.size ≤ b7_5) := Lib.hid (Nat.le_trans HBW.out hgb5)
 have HX_b7_5 : Hid (Has u7 b7_5 30 ([(fl v7_3 0), (fl v7_3 1), .int .u64 1, (fl v7_3 2)])) := Lib.hid hp5
 clear hp5 hgb5
 clear HBW
 go_upto_region 8 with fail
 have HST : Hid (Below u7.heap.size u7 u7.drew) := Lib.hid (Below.refl _ _).drew
 replace HX_b3_5 := Lib.hid (HX_b3_5.out.keepB HST.out)
 replace HX_b4_4 := Lib.hid (HX_b4_4.out.keepB HST.out)
 replace HU4_2 := Lib.hid (HU4_2.out.keep HST.out)
 replace HX_b5_5 := Lib.hid (HX_b5_5.out.keepB HST.out)
 replace HU5_3 := Lib.hid (HU5_3.out.keep HST.out)
 replace HX_b6_6 := Lib.hid (HX_b6_6.out.keepB HST.out)
 replace HU6_4 := Lib.hid (HU6_4.out.keep HST.out)
 replace HX_b7_5 := Lib.hid (HX_b7_5.out.keepB HST.out)
 replace HU7_3 := Lib.hid (HU7_3.out.keep HST.out)
 replace HB := Lib.hid (HB.out.trans (HST.out.mono HB.out.size))
 clear HST
 refine wp_act (fun a0 ha0 => ?_)
 have zsz : a0.tmps.size = 200 := by rw [ha0]; rfl
 have z7 : a0.eval (.tmp 7) = .pointer (some ⟨b6_6, 0, none⟩) := by rw [ha0]; rfl
 refine wrD [] slotsKn8 waitKn8 [Fct.val Flz 0 (.agg #[.int .u64 1, v6_4]), Fct.obj 1 (fun v w => Ins w v ([1, 2, 3, 4])) (fun _ _ _ h he => h.flzT he), Fct.obj 2 (fun v w => Us w v (Q14)) (fun _ _ _ h he => h.flz he), Fct.obj 3 (fun v w => ∃ zz, v = .tuple #[(fl zz 0), (fl zz 1), .int .i64 10] ∧ OwnR (([] : List Su)) (([] : List Su)) w zz) (fun _ _ _ ⟨zz, a, b⟩ he => ⟨zz, a, b.flz he⟩), Fct.obj 4 (fun v w => ∃ zz, v = .tuple #[(fl zz 0), (fl zz 1), .int .i64 10] ∧ OwnR (([] : List Su)) (([] : List Su)) w zz) (fun _ _ _ ⟨zz, a, b⟩ he => ⟨zz, a, b.flz he⟩), Fct.obj 5 (fun v w => ∃ zz, v = (fl zz 0) ∧ OwnR (([] : List Su)) (([] : List Su)) w zz) (fun _ _ _ ⟨zz, a, b⟩ he => ⟨zz, a, b.flz he⟩), Fct.obj 6 (fun v w => ∃ zz, v = (fl zz 1) ∧ OwnR (([] : List Su)) (([] : List Su)) w zz) (fun _ _ _ ⟨zz, a, b⟩ he => ⟨zz, a, b.flz he⟩), Fct.val Flz 7 (.int .i64 10), Fct.obj 8 (fun v w => ∃ zz, v = (fl zz 0) ∧ OwnR (([] : List Su)) (([] : List Su)) w zz) (fun _ _ _ ⟨zz, a, b⟩ he => ⟨zz, a, b.flz he⟩), Fct.obj 9 (fun v w => ∃ zz, v = (fl zz 1) ∧ OwnR (([] : List Su)) (([] : List Su)) w zz) (fun _ _ _ ⟨zz, a, b⟩ he => ⟨zz, a, b.flz he⟩), Fct.val Flz 10 (.int .i64 10)] (fun w' => Below u7.drew.heap.size u7.drew w') _ 11 0 chkKn8 (by kernel_rfl) (by kernel_rfl) (by kernel_rfl) (by kernel_rfl) (by decide) (Below.refl _ _) ?_ ?_
 ·refine lt_s (lt_s (lt_s (lt_s (lt_s (lt_s (lt_s (lt_s (lt_s (lt_s (lt_s (lt_0) ?_) ?_) ?_) ?_) ?_) ?_) ?_) ?_) ?_) ?_) ?_
  ·intro f w1 hS hf aA hA
   have r7 := qO 7 hA z7
   exact fV rfl rfl _ (ex_loadR 28 (.tmp 7) rfl ⟨b6_6, 0, none⟩ r7 (fun _ => by kernel_rfl) [.int .u64 1, v6_4] (by kernel_rfl) ((HX_b6_6.out.keepB hS).part [.int .u64 1, v6_4] 0 (fun j u hu => by rw [Nat.zero_add]; exact hu))) hS uS
  ·intro f w1 hS hf aA hA
   exact flw_wp rfl rfl (fun K hK => wp_lit_ints9 4 _ rfl (([1, 2, 3, 4] : List Int).map fun n => Value.int .i64 n).toArray (by decide) (by decide) (by kernel_rfl) (hK _ _ (hS.alloc hS.size _) (Flz.al _ _) (show Ins _ (updF f 1 _ 1) [1, 2, 3, 4] by rw [updF_self]; exact Ins.litE9 _ _ 4 rfl)))
  ·intro f w1 hS hf aA hA
   have hu1 : Ins w1 (f 1) ([1, 2, 3, 4]) := (hf 1 (by decide))
   have e58 := pA 58 1 hA sbKn8 (by kernel_rfl) zsz rfl rfl
   exact flw_call rfl rfl 12 #[(.tmp 58)] _ rfl #[f 1] (mp1 e58) (fun w => by kernel_rfl) (fun v w' => Us w' v (Q14)) (few16_us _ ([1, 2, 3, 4]) w1 (HL.out.keep (HB.out.trans (hS.mono HB.out.size)) HSZ.out) (by decide) hu1) (fun v w' hr hb => ⟨hS.trans (hb.mono hS.size), Flz.of hb, (show Us w' (updF f 2 v 2) (Q14) by rw [updF_self]; exact hr)⟩)
  ·intro f w1 hS hf aA hA
   have r57 := qA 57 0 hA sbKn8 zsz (hf 0 (by decide))
   have hu2 : Us w1 (f 2) (Q14) := (hf 2 (by decide))
   have e59 := pA 59 2 hA sbKn8 (by kernel_rfl) zsz rfl rfl
   exact fC rfl rfl 13 #[(.tmp 57), (.tmp 59)] _ rfl #[.agg #[.int .u64 1, v6_4], f 2] (mp2 r57 e59) (fun w => by kernel_rfl) _ (ownR_f 1 _ (T3) _ (Q14) T3_more w1 (by decide) (HL.out.keep (HB.out.trans (hS.mono HB.out.size)) HSZ.out) (by rw [T3_len]; decide) (len_few [1, 2, 3, 4] 1000 (by decide)) (HU6_4.out.keep hS) hu2 (by rw [T3_len]; decide) (good_few [1, 2, 3, 4] (by decide))) hS (fun _ _ ⟨zz, a, b⟩ => ⟨zz, uS.trans a, b⟩)
  ·intro f w1 hS hf aA hA
   obtain ⟨x60, hx60, hr60⟩ := hf 3 (by decide)
   have e60 := pA 60 3 hA sbKn8 (by kernel_rfl) zsz rfl hx60
   exact flw_val rfl rfl (.tuple #[(fl x60 0), (fl x60 1), .int .i64 10]) (ex_move (.tmp 60) rfl e60) hS (Flz.refl _) ⟨x60, uS, hr60⟩
  ·intro f w1 hS hf aA hA
   obtain ⟨x56, hx56, hr56⟩ := hf 4 (by decide)
   have e56 := pA 56 4 hA sbKn8 (by kernel_rfl) zsz rfl hx56
   exact flw_val rfl rfl ((fl x56 0)) (ex_extract (.tmp 56) 0 rfl e56 rfl) hS (Flz.refl _) ⟨x56, uS, hr56⟩
  ·intro f w1 hS hf aA hA
   obtain ⟨x56, hx56, hr56⟩ := hf 4 (by decide)
   have e56 := pA 56 4 hA sbKn8 (by kernel_rfl) zsz rfl hx56
   exact flw_val rfl rfl ((fl x56 1)) (ex_extract (.tmp 56) 1 rfl e56 rfl) hS (Flz.refl _) ⟨x56, uS, hr56⟩
  ·intro f w1 hS hf aA hA
   obtain ⟨x56, hx56, hr56⟩ := hf 4 (by decide)
   have e56 := pA 56 4 hA sbKn8 (by kernel_rfl) zsz rfl hx56
   exact fV rfl rfl _ (ex_extract (.tmp 56) 2 rfl e56 rfl) hS uS
  ·intro f w1 hS hf aA hA
   obtain ⟨x61, hx61, hr61⟩ := hf 5 (by decide)
   have e61 := pA 61 5 hA sbKn8 (by kernel_rfl) zsz rfl hx61
   exact flw_val rfl rfl ((fl x61 0)) (ex_assign (.tmp 61) rfl e61) hS (Flz.refl _) ⟨x61, uS, hr61⟩
  ·intro f w1 hS hf aA hA
   obtain ⟨x62, hx62, hr62⟩ := hf 6 (by decide)
   have e62 := pA 62 6 hA sbKn8 (by kernel_rfl) zsz rfl hx62
   exact flw_val rfl rfl ((fl x62 1)) (ex_assign (.tmp 62) rfl e62) hS (Flz.refl _) ⟨x62, uS, hr62⟩
  ·intro f w1 hS hf aA hA
   have r63 := qA 63 7 hA sbKn8 zsz (hf 7 (by decide))
   exact fV rfl rfl _ (ex_assign (.tmp 63) rfl r63) hS uS
 intro f u8 hS hf hap
 have h0 := eqL (hf 0 (by decide)) rfl
 obtain ⟨v8_1, h1, hu1⟩ : ∃ v, f 1 = v ∧ Ins u8 v ([1, 2, 3, 4]) := ⟨_, rfl, (hf 1 (by decide))⟩
 clear hu1
 obtain ⟨v8_2, h2, hu2⟩ : ∃ v, f 2 = v ∧ Us u8 v (Q14) := ⟨_, rfl, (hf 2 (by decide))⟩
 clear hu2
 obtain ⟨v8_3, h3, -⟩ := hf 3 (by decide)
 obtain ⟨v8_4, h4, -⟩ := hf 4 (by decide)
 obtain ⟨v8_5, h5, -⟩ := hf 5 (by decide)
 obtain ⟨v8_6, h6, -⟩ := hf 6 (by decide)
 have h7 := eqL (hf 7 (by decide)) rfl
 obtain ⟨v8_8, h8, -⟩ := hf 8 (by decide)
 obtain ⟨v8_9, h9, -⟩ := hf 9 (by decide)
 have h10 := eqL (hf 10 (by decide)) rfl
 clear hf hap
 clear zsz z7
 subst ha0
 simp only [slotsKn8, putAll, h0, h1, h2, h3, h4, h5, h6, h7, h8, h9, h10, Act.put, List.setIfInBounds_toArray, List.set_cons_zero, List.set_cons_succ]
 clear h0 h1 h2 h3 h4 h5 h6 h7 h8 h9 h10
 refine tl_nilN ?_
 replace HX_b3_5 := Lib.hid (HX_b3_5.out.keepB hS)
 replace HX_b4_4 := Lib.hid (HX_b4_4.out.keepB hS)
 replace HU4_2 := Lib.hid (HU4_2.out.keep hS)
 replace HX_b5_5 := Lib.hid (HX_b5_5.out.keepB hS)
 replace HU5_3 := Lib.hid (HU5_3.out.keep hS)
 replace HX_b6_6 := Lib.hid (HX_b6_6.out.keepB hS)
 replace HU6_4 := Lib.hid (HU6_4.out.keep hS)
 replace HX_b7_5 := Lib.hid (HX_b7_5.out.keepB hS)
 replace HU7_3 := Lib.hid (HU7_3.out.keep hS)
 replace HB := Lib.hid (HB.out.trans (hS.mono HB.out.size))
 clear hS
 go_upto_region 9 with fail
 have HST : Hid (Below u8.heap.size u8 u8.drew) := Lib.hid (Below.refl _ _).drew
 replace HX_b3_5 := Lib.hid (HX_b3_5.out.keepB HST.out)
 replace HX_b4_4 := Lib.hid (HX_b4_4.out.keepB HST.out)
 replace HU4_2 := Lib.hid (HU4_2.out.keep HST.out)
 replace HX_b5_5 := Lib.hid (HX_b5_5.out.keepB HST.out)
 replace HU5_3 := Lib.hid (HU5_3.out.keep HST.out)
 replace HX_b6_6 := Lib.hid (HX_b6_6.out.keepB HST.out)
 replace HU6_4 := Lib.hid (HU6_4.out.keep HST.out)
 replace HX_b7_5 := Lib.hid (HX_b7_5.out.keepB HST.out)
 replace HU7_3 := Lib.hid (HU7_3.out.keep HST.out)
 replace HB := Lib.hid (HB.out.trans (HST.out.mono HB.out.size))
 clear HST
 refine wp_act (fun a0 ha0 => ?_)
 have zsz : a0.tmps.size = 200 := by rw [ha0]; rfl
 have z7 : a0.eval (.tmp 7) = .pointer (some ⟨b6_6, 0, none⟩) := by rw [ha0]; rfl
 refine wrD [] slotsKn9 waitKn9 [Fct.val Flz 0 (.agg #[.int .u64 1, v6_4]), Fct.obj 1 (fun v w => Ins w v ([1, 2])) (fun _ _ _ h he => h.flzT he), Fct.obj 2 (fun v w => Us w v (Q12)) (fun _ _ _ h he => h.flz he), Fct.obj 3 (fun v w => ∃ zz, v = .tuple #[(fl zz 0), (fl zz 1), .int .i64 0] ∧ OwnR (([] : List Su)) (([] : List Su)) w zz) (fun _ _ _ ⟨zz, a, b⟩ he => ⟨zz, a, b.flz he⟩), Fct.obj 4 (fun v w => ∃ zz, v = .tuple #[(fl zz 0), (fl zz 1), .int .i64 0] ∧ OwnR (([] : List Su)) (([] : List Su)) w zz) (fun _ _ _ ⟨zz, a, b⟩ he => ⟨zz, a, b.flz he⟩), Fct.obj 5 (fun v w => ∃ zz, v = (fl zz 0) ∧ OwnR (([] : List Su)) (([] : List Su)) w zz) (fun _ _ _ ⟨zz, a, b⟩ he => ⟨zz, a, b.flz he⟩), Fct.obj 6 (fun v w => ∃ zz, v = (fl zz 1) ∧ OwnR (([] : List Su)) (([] : List Su)) w zz) (fun _ _ _ ⟨zz, a, b⟩ he => ⟨zz, a, b.flz he⟩), Fct.val Flz 7 (.int .i64 0), Fct.obj 8 (fun v w => ∃ zz, v = (fl zz 0) ∧ OwnR (([] : List Su)) (([] : List Su)) w zz) (fun _ _ _ ⟨zz, a, b⟩ he => ⟨zz, a, b.flz he⟩), Fct.obj 9 (fun v w => ∃ zz, v = (fl zz 1) ∧ OwnR (([] : List Su)) (([] : List Su)) w zz) (fun _ _ _ ⟨zz, a, b⟩ he => ⟨zz, a, b.flz he⟩), Fct.val Flz 10 (.int .i64 0)] (fun w' => Below u8.drew.heap.size u8.drew w') _ 11 0 chkKn9 (by kernel_rfl) (by kernel_rfl) (by kernel_rfl) (by kernel_rfl) (by decide) (Below.refl _ _) ?_ ?_
 ·refine lt_s (lt_s (lt_s (lt_s (lt_s (lt_s (lt_s (lt_s (lt_s (lt_s (lt_s (lt_0) ?_) ?_) ?_) ?_) ?_) ?_) ?_) ?_) ?_) ?_) ?_
  ·intro f w1 hS hf aA hA
   have r7 := qO 7 hA z7
   exact fV rfl rfl _ (ex_loadR 28 (.tmp 7) rfl ⟨b6_6, 0, none⟩ r7 (fun _ => by kernel_rfl) [.int .u64 1, v6_4] (by kernel_rfl) ((HX_b6_6.out.keepB hS).part [.int .u64 1, v6_4] 0 (fun j u hu => by rw [Nat.zero_add]; exact hu))) hS uS
  ·intro f w1 hS hf aA hA
   exact flw_wp rfl rfl (fun K hK => wp_lit_ints9 2 _ rfl (([1, 2] : List Int).map fun n => Value.int .i64 n).toArray (by decide) (by decide) (by kernel_rfl) (hK _ _ (hS.alloc hS.size _) (Flz.al _ _) (show Ins _ (updF f 1 _ 1) [1, 2] by rw [updF_self]; exact Ins.litE9 _ _ 2 rfl)))
  ·intro f w1 hS hf aA hA
   have hu1 : Ins w1 (f 1) ([1, 2]) := (hf 1 (by decide))
   have e66 := pA 66 1 hA sbKn9 (by kernel_rfl) zsz rfl rfl
   exact flw_call rfl rfl 12 #[(.tmp 66)] _ rfl #[f 1] (mp1 e66) (fun w => by kernel_rfl) (fun v w' => Us w' v (Q12)) (few16_us _ ([1, 2]) w1 (HL.out.keep (HB.out.trans (hS.mono HB.out.size)) HSZ.out) (by decide) hu1) (fun v w' hr hb => ⟨hS.trans (hb.mono hS.size), Flz.of hb, (show Us w' (updF f 2 v 2) (Q12) by rw [updF_self]; exact hr)⟩)
  ·intro f w1 hS hf aA hA
   have r65 := qA 65 0 hA sbKn9 zsz (hf 0 (by decide))
   have hu2 : Us w1 (f 2) (Q12) := (hf 2 (by decide))
   have e67 := pA 67 2 hA sbKn9 (by kernel_rfl) zsz rfl rfl
   exact fC rfl rfl 13 #[(.tmp 65), (.tmp 67)] _ rfl #[.agg #[.int .u64 1, v6_4], f 2] (mp2 r65 e67) (fun w => by kernel_rfl) _ (ownR_t (([] : List Su)) (([] : List Su)) 1 _ (T3) _ (Q12) (List.replicate 3 zC, [], []) (own_self 1 3 Q12) (ownB_of (m := 3) (by decide) (by simp) (fun _ h => by cases h) (fun _ h => by cases h)) rfl rfl w1 (by decide) (HL.out.keep (HB.out.trans (hS.mono HB.out.size)) HSZ.out) (by rw [T3_len]; decide) (len_few [1, 2] 1000 (by decide)) (HU6_4.out.keep hS) hu2 (by rw [T3_len]; decide) (good_few [1, 2] (by decide))) hS (fun _ _ ⟨zz, a, b⟩ => ⟨zz, uS.trans a, b⟩)
  ·intro f w1 hS hf aA hA
   obtain ⟨x68, hx68, hr68⟩ := hf 3 (by decide)
   have e68 := pA 68 3 hA sbKn9 (by kernel_rfl) zsz rfl hx68
   exact flw_val rfl rfl (.tuple #[(fl x68 0), (fl x68 1), .int .i64 0]) (ex_move (.tmp 68) rfl e68) hS (Flz.refl _) ⟨x68, uS, hr68⟩
  ·intro f w1 hS hf aA hA
   obtain ⟨x64, hx64, hr64⟩ := hf 4 (by decide)
   have e64 := pA 64 4 hA sbKn9 (by kernel_rfl) zsz rfl hx64
   exact flw_val rfl rfl ((fl x64 0)) (ex_extract (.tmp 64) 0 rfl e64 rfl) hS (Flz.refl _) ⟨x64, uS, hr64⟩
  ·intro f w1 hS hf aA hA
   obtain ⟨x64, hx64, hr64⟩ := hf 4 (by decide)
   have e64 := pA 64 4 hA sbKn9 (by kernel_rfl) zsz rfl hx64
   exact flw_val rfl rfl ((fl x64 1)) (ex_extract (.tmp 64) 1 rfl e64 rfl) hS (Flz.refl _) ⟨x64, uS, hr64⟩
  ·intro f w1 hS hf aA hA
   obtain ⟨x64, hx64, hr64⟩ := hf 4 (by decide)
   have e64 := pA 64 4 hA sbKn9 (by kernel_rfl) zsz rfl hx64
   exact fV rfl rfl _ (ex_extract (.tmp 64) 2 rfl e64 rfl) hS uS
  ·intro f w1 hS hf aA hA
   obtain ⟨x69, hx69, hr69⟩ := hf 5 (by decide)
   have e69 := pA 69 5 hA sbKn9 (by kernel_rfl) zsz rfl hx69
   exact flw_val rfl rfl ((fl x69 0)) (ex_assign (.tmp 69) rfl e69) hS (Flz.refl _) ⟨x69, uS, hr69⟩
  ·intro f w1 hS hf aA hA
   obtain ⟨x70, hx70, hr70⟩ := hf 6 (by decide)
   have e70 := pA 70 6 hA sbKn9 (by kernel_rfl) zsz rfl hx70
   exact flw_val rfl rfl ((fl x70 1)) (ex_assign (.tmp 70) rfl e70) hS (Flz.refl _) ⟨x70, uS, hr70⟩
  ·intro f w1 hS hf aA hA
   have r71 := qA 71 7 hA sbKn9 zsz (hf 7 (by decide))
   exact fV rfl rfl _ (ex_assign (.tmp 71) rfl r71) hS uS
 intro f u9 hS hf hap
 have h0 := eqL (hf 0 (by decide)) rfl
 obtain ⟨v9_1, h1, hu1⟩ : ∃ v, f 1 = v ∧ Ins u9 v ([1, 2]) := ⟨_, rfl, (hf 1 (by decide))⟩
 clear hu1
 obtain ⟨v9_2, h2, hu2⟩ : ∃ v, f 2 = v ∧ Us u9 v (Q12) := ⟨_, rfl, (hf 2 (by decide))⟩
 clear hu2
 obtain ⟨v9_3, h3, -⟩ := hf 3 (by decide)
 obtain ⟨v9_4, h4, -⟩ := hf 4 (by decide)
 obtain ⟨v9_5, h5, -⟩ := hf 5 (by decide)
 obtain ⟨v9_6, h6, -⟩ := hf 6 (by decide)
 have h7 := eqL (hf 7 (by decide)) rfl
 obtain ⟨v9_8, h8, hu8⟩ := hf 8 (by decide)
 have HU9_8 := Lib.hid hu8
 clear hu8
 obtain ⟨v9_9, h9, hu9⟩ := hf 9 (by decide)
 have HU9_9 := Lib.hid hu9
 clear hu9
 have h10 := eqL (hf 10 (by decide)) rfl
 clear hf hap
 clear zsz z7
 subst ha0
 simp only [slotsKn9, putAll, h0, h1, h2, h3, h4, h5, h6, h7, h8, h9, h10, Act.put, List.setIfInBounds_toArray, List.set_cons_zero, List.set_cons_succ]
 clear h0 h1 h2 h3 h4 h5 h6 h7 h8 h9 h10
 refine tl_nilN ?_
 replace HX_b3_5 := Lib.hid (HX_b3_5.out.keepB hS)
 replace HX_b4_4 := Lib.hid (HX_b4_4.out.keepB hS)
 replace HU4_2 := Lib.hid (HU4_2.out.keep hS)
 replace HX_b5_5 := Lib.hid (HX_b5_5.out.keepB hS)
 replace HU5_3 := Lib.hid (HU5_3.out.keep hS)
 replace HX_b6_6 := Lib.hid (HX_b6_6.out.keepB hS)
 replace HU6_4 := Lib.hid (HU6_4.out.keep hS)
 replace HX_b7_5 := Lib.hid (HX_b7_5.out.keepB hS)
 replace HU7_3 := Lib.hid (HU7_3.out.keep hS)
 replace HB := Lib.hid (HB.out.trans (hS.mono HB.out.size))
 clear hS
 go_upto_region 10 with fail
 refine wp_act (fun a0 ha0 => ?_)
 have zsz : a0.tmps.size = 200 := by rw [ha0]; rfl
 have z3 : a0.eval (.tmp 3) = .pointer (some ⟨b4_4, 0, none⟩) := by rw [ha0]; rfl
 refine wrO [] slotsKn10 waitKn10 [Fct.val Flz 0 (.agg #[.int .u64 1, v4_2]), Fct.val Flz 1 (.agg (encU sTwo).toArray), Fct.val Flz 2 (.agg (encU sOne).toArray), Fct.obj 3 (fun v w => Us w v ([sTwo, sOne])) (fun _ _ _ h he => h.flz he), Fct.val Flz 4 (.tuple #[.slice none 0 0, .slice none 0 0, .int .i64 1]), Fct.val Flz 5 (.tuple #[.slice none 0 0, .slice none 0 0, .int .i64 1]), Fct.val Flz 6 (.slice none 0 0), Fct.val Flz 7 (.slice none 0 0), Fct.val Flz 8 (.int .i64 1), Fct.val Flz 9 (.slice none 0 0), Fct.val Flz 10 (.slice none 0 0), Fct.val Flz 11 (.int .i64 1)] (fun w' => Below u9.heap.size u9 w') _ 12 0 chkKn10 (by kernel_rfl) (by kernel_rfl) (by kernel_rfl) (by decide) (Below.refl _ _) ?_ ?_
 ·refine lt_s (lt_s (lt_s (lt_s (lt_s (lt_s (lt_s (lt_s (lt_s (lt_s (lt_s (lt_s (lt_0) ?_) ?_) ?_) ?_) ?_) ?_) ?_) ?_) ?_) ?_) ?_) ?_
  ·intro f w1 hS hf aA hA
   have r3 := qO 3 hA z3
   exact fV rfl rfl _ (ex_loadR 28 (.tmp 3) rfl ⟨b4_4, 0, none⟩ r3 (fun _ => by kernel_rfl) [.int .u64 1, v4_2] (by kernel_rfl) ((HX_b4_4.out.keepB hS).part [.int .u64 1, v4_2] 0 (fun j u hu => by rw [Nat.zero_add]; exact hu))) hS uS
  ·intro f w1 hS hf aA hA
   exact fV rfl rfl _ (ex_build 42 _ rfl (encU sTwo).toArray [(0, .int .u8 2)] (by kernel_rfl) (by kernel_rfl)) hS uS
  ·intro f w1 hS hf aA hA
   exact fV rfl rfl _ (ex_build 42 _ rfl (encU sOne).toArray [(0, .int .u8 1)] (by kernel_rfl) (by kernel_rfl)) hS uS
  ·intro f w1 hS hf aA hA
   have r74 := qA 74 1 hA sbKn10 zsz (hf 1 (by decide))
   have r75 := qA 75 2 hA sbKn10 zsz (hf 2 (by decide))
   exact flw_wp rfl rfl (fun K hK => wp_two_su (.tmp 74) (.tmp 75) rfl r74 r75 (hK _ _ (hS.alloc hS.size _) (Flz.al _ _) (show Us _ (updF f 3 _ 3) [sTwo, sOne] by rw [updF_self]; exact Us.lit (Has.made' _ _ _ _ rfl) rfl)))
  ·intro f w1 hS hf aA hA
   have r73 := qA 73 0 hA sbKn10 zsz (hf 0 (by decide))
   have hu3 : Us w1 (f 3) ([sTwo, sOne]) := (hf 3 (by decide))
   have e76 := pA 76 3 hA sbKn10 (by kernel_rfl) zsz rfl rfl
   exact fC rfl rfl 13 #[(.tmp 73), (.tmp 76)] _ rfl #[.agg #[.int .u64 1, v4_2], f 3] (mp2 r73 e76) (fun w => by kernel_rfl) _ (ownBad 1 _ (Z12) _ ([sTwo, sOne]) w1 (by decide) (HL.out.keep (HB.out.trans (hS.mono HB.out.size)) HSZ.out) (by decide) (by decide) (HU4_2.out.keep hS) hu3 (by decide) un21) hS (fun _ _ h => uS.trans h)
  ·intro f w1 hS hf aA hA
   have r77 := qA 77 4 hA sbKn10 zsz (hf 4 (by decide))
   exact fV rfl rfl _ (ex_move (.tmp 77) rfl r77) hS uS
  ·intro f w1 hS hf aA hA
   have r72 := qA 72 5 hA sbKn10 zsz (hf 5 (by decide))
   exact fV rfl rfl _ (ex_extract (.tmp 72) 0 rfl r72 rfl) hS uS
  ·intro f w1 hS hf aA hA
   have r72 := qA 72 5 hA sbKn10 zsz (hf 5 (by decide))
   exact fV rfl rfl _ (ex_extract (.tmp 72) 1 rfl r72 rfl) hS uS
  ·intro f w1 hS hf aA hA
   have r72 := qA 72 5 hA sbKn10 zsz (hf 5 (by decide))
   exact fV rfl rfl _ (ex_extract (.tmp 72) 2 rfl r72 rfl) hS uS
  ·intro f w1 hS hf aA hA
   have r78 := qA 78 6 hA sbKn10 zsz (hf 6 (by decide))
   exact fV rfl rfl _ (ex_assign (.tmp 78) rfl r78) hS uS
  ·intro f w1 hS hf aA hA
   have r79 := qA 79 7 hA sbKn10 zsz (hf 7 (by decide))
   exact fV rfl rfl _ (ex_assign (.tmp 79) rfl r79) hS uS
  ·intro f w1 hS hf aA hA
   have r80 := qA 80 8 hA sbKn10 zsz (hf 8 (by decide))
   exact fV rfl rfl _ (ex_assign (.tmp 80) rfl r80) hS uS
 intro f u10 hS hf hap
 have h0 := eqL (hf 0 (by decide)) rfl
 have h1 := eqL (hf 1 (by decide)) rfl
 have h2 := eqL (hf 2 (by decide)) rfl
 obtain ⟨v10_3, h3, hu3⟩ : ∃ v, f 3 = v ∧ Us u10 v ([sTwo, sOne]) := ⟨_, rfl, (hf 3 (by decide))⟩
 clear hu3
 have h4 := eqL (hf 4 (by decide)) rfl
 have h5 := eqL (hf 5 (by decide)) rfl
 have h6 := eqL (hf 6 (by decide)) rfl
 have h7 := eqL (hf 7 (by decide)) rfl
 have h8 := eqL (hf 8 (by decide)) rfl
 have h9 := eqL (hf 9 (by decide)) rfl
 have h10 := eqL (hf 10 (by decide)) rfl
 have h11 := eqL (hf 11 (by decide)) rfl
 clear hf hap
 clear zsz z3
 subst ha0
 simp only [slotsKn10, putAll, h0, h1, h2, h3, h4, h5, h6, h7, h8, h9, h10, h11, Act.put, List.setIfInBounds_toArray, List.set_cons_zero, List.set_cons_succ]
 clear h0 h1 h2 h3 h4 h5 h6 h7 h8 h9 h10 h11
 refine tl_nil ?_
 replace HX_b3_5 := Lib.hid (HX_b3_5.out.keepB hS)
 replace HX_b4_4 := Lib.hid (HX_b4_4.out.keepB hS)
 replace HU4_2 := Lib.hid (HU4_2.out.keep hS)
 replace HX_b5_5 := Lib.hid (HX_b5_5.out.keepB hS)
 replace HU5_3 := Lib.hid (HU5_3.out.keep hS)
 replace HX_b6_6 := Lib.hid (HX_b6_6.out.keepB hS)
 replace HU6_4 := Lib.hid (HU6_4.out.keep hS)
 replace HX_b7_5 := Lib.hid (HX_b7_5.out.keepB hS)
 replace HU7_3 := Lib.hid (HU7_3.out.keep hS)
 replace HU9_8 := Lib.hid (HU9_8.out.keep hS)
 replace HU9_9 := Lib.hid (HU9_9.out.keep hS)
 replace HB := Lib.hid (HB.out.trans (hS.mono HB.out.size))
 clear hS
 go_upto_region 11 with fail
 have HST : Hid (Below u10.heap.size u10 u10.drew) := Lib.hid (Below.refl _ _).drew
 replace HX_b3_5 := Lib.hid (HX_b3_5.out.keepB HST.out)
 replace HX_b4_4 := Lib.hid (HX_b4_4.out.keepB HST.out)
 replace HU4_2 := Lib.hid (HU4_2.out.keep HST.out)
 replace HX_b5_5 := Lib.hid (HX_b5_5.out.keepB HST.out)
 replace HU5_3 := Lib.hid (HU5_3.out.keep HST.out)
 replace HX_b6_6 := Lib.hid (HX_b6_6.out.keepB HST.out)
 replace HU6_4 := Lib.hid (HU6_4.out.keep HST.out)
 replace HX_b7_5 := Lib.hid (HX_b7_5.out.keepB HST.out)
 replace HU7_3 := Lib.hid (HU7_3.out.keep HST.out)
 replace HU9_8 := Lib.hid (HU9_8.out.keep HST.out)
 replace HU9_9 := Lib.hid (HU9_9.out.keep HST.out)
 replace HB := Lib.hid (HB.out.trans (HST.out.mono HB.out.size))
 clear HST
 refine wp_act (fun a0 ha0 => ?_)
 have zsz : a0.tmps.size = 200 := by rw [ha0]; rfl
 have z3 : a0.eval (.tmp 3) = .pointer (some ⟨b4_4, 0, none⟩) := by rw [ha0]; rfl
 refine wrD [] slotsKn11 waitKn11 [Fct.val Flz 0 (.agg #[.int .u64 1, v4_2]), Fct.obj 1 (fun v w => ∃ g, v = .slice (some ⟨g, 0, none⟩) 1 1 ∧ u10.drew.heap.size ≤ g ∧ Cl w g 5 (tZ.map u8v)) (fun _ _ _ ⟨g, a, b, c⟩ he => ⟨g, a, b, c.flz he⟩), Fct.obj 2 (fun v w => ∃ g, v = .slice (some ⟨g, 0, none⟩) 1 1 ∧ u10.drew.heap.size ≤ g ∧ Cl w g 5 (tZ.map u8v)) (fun _ _ _ ⟨g, a, b, c⟩ he => ⟨g, a, b, c.flz he⟩), Fct.obj 3 (fun v w => ∃ g k, v = .slice (some ⟨k, 0, none⟩) 1 1 ∧ Cl w k 45 [.slice (some ⟨g, 0, none⟩) 1 1] ∧ Cl w g 5 (tZ.map u8v)) (fun _ _ _ ⟨g, k, a, b, c⟩ he => ⟨g, k, a, b.flz he, c.flz he⟩), Fct.val Flz 4 (.agg (encU (shaU tZ)).toArray), Fct.obj 5 (fun v w => ∃ zz, v = .agg #[.int .u64 1, zz] ∧ Cs w zz (NEG (shaU tZ))) (fun _ _ _ ⟨zz, a, b⟩ he => ⟨zz, a, b.flz he⟩), Fct.obj 6 (fun v w => ∃ g, v = .pointer (some ⟨g, 0, none⟩) ∧ u10.drew.heap.size ≤ g ∧ Has w g 28 ([.int .u64 0, .slice none 0 0])) (fun _ _ _ ⟨g, a, b, c⟩ he => ⟨g, a, b, c.flz he (by decide)⟩)] (fun w' => Below u10.drew.heap.size u10.drew w') _ 7 1 chkKn11 (by kernel_rfl) (by kernel_rfl) (by kernel_rfl) (by kernel_rfl) (by decide) (Below.refl _ _) ?_ ?_
 ·refine lt_s (lt_s (lt_s (lt_s (lt_s (lt_s (lt_s (lt_0) ?_) ?_) ?_) ?_) ?_) ?_) ?_
  ·intro f w1 hS hf aA hA
   have r3 := qO 3 hA z3
   exact fV rfl rfl _ (ex_loadR 28 (.tmp 3) rfl ⟨b4_4, 0, none⟩ r3 (fun _ => by kernel_rfl) [.int .u64 1, v4_2] (by kernel_rfl) ((HX_b4_4.out.keepB hS).part [.int .u64 1, v4_2] 0 (fun j u hu => by rw [Nat.zero_add]; exact hu))) hS uS
  ·intro f w1 hS hf aA hA
   exact flw_wp rfl rfl (fun K hK => wp_lit8 1 _ rfl ((tZ.map u8v).toArray) (by decide) (by decide) (by kernel_rfl) (hK _ _ (hS.alloc hS.size _) (Flz.al _ _) ⟨_, uS, hS.size, Cl.made _ _ _⟩))
  ·intro f w1 hS hf aA hA
   have e82 := pA 82 1 hA sbKn11 (by kernel_rfl) zsz rfl rfl
   obtain ⟨g, hv, hg, hc⟩ := hf 1 (by decide)
   exact flw_wp rfl rfl (fun K hK => wp_conv_at (.tmp 82) rfl g 1 1 _ (e82.trans hv) hc (hK _ _ (hS.trans (freeze_flz hc hg).2) (freeze_flz hc hg).1 ⟨g, uS, hg, hc.flz (freeze_flz hc hg).1⟩))
  ·intro f w1 hS hf aA hA
   have e83 := pA 83 2 hA sbKn11 (by kernel_rfl) zsz rfl rfl
   obtain ⟨g, hv, hg, hc⟩ := hf 2 (by decide)
   exact flw_wp rfl rfl (fun K hK => wp_one_bs (.tmp 83) rfl (some ⟨g, 0, none⟩) 1 1 (e83.trans hv) (hK _ _ (hS.alloc hS.size _) (Flz.al _ _) ⟨g, _, uS, Cl.made _ _ [_], hc.flz (Flz.al _ _)⟩))
  ·intro f w1 hS hf aA hA
   have e84 := pA 84 3 hA sbKn11 (by kernel_rfl) zsz rfl rfl
   obtain ⟨g, k, hv, hk, hc⟩ := hf 3 (by decide)
   have HOF := of_at (x := tZ) hk (some ⟨g, 0, none⟩) 1 rfl (by decide) hc.sees (by decide) (HL.out.keep (HB.out.trans (hS.mono HB.out.size)) HSZ.out)
   exact fC rfl rfl 15 #[(.tmp 84)] _ rfl #[.slice (some ⟨k, 0, none⟩) 1 1] (by simp only [List.map_toArray, List.map_cons, List.map_nil, e84, hv]) (fun w => by kernel_rfl) _ HOF hS (fun _ _ h => uS.trans h)
  ·intro f w1 hS hf aA hA
   have r81 := qA 81 0 hA sbKn11 zsz (hf 0 (by decide))
   have r85 := qA 85 4 hA sbKn11 zsz (hf 4 (by decide))
   exact fC rfl rfl 14 #[(.tmp 81), (.tmp 85)] _ rfl #[.agg #[.int .u64 1, v4_2], .agg (encU (shaU tZ)).toArray] (mp2 r81 r85) (fun w => by kernel_rfl) _ (takeT_any 1 (shaU tZ) _ (Z12) w1 (by decide) (HL.out.keep (HB.out.trans (hS.mono HB.out.size)) HSZ.out) (by decide) (HU4_2.out.keep hS)) hS (fun _ _ ⟨zz, a, b⟩ => ⟨zz, uS.trans a, b⟩)
  ·intro f w1 hS hf aA hA
   exact flw_wp rfl rfl (fun K hK => wp_alloc_row 28 rfl (.agg #[.int .u64 0, .slice none 0 0]) (fun w => by kernel_rfl) (hK _ _ (hS.alloc hS.size _) (Flz.al _ _) ⟨_, uS, hS.size, Has.made' _ _ _ _ rfl⟩))
 intro f x11 hS hf hap
 have h0 := eqL (hf 0 (by decide)) rfl
 obtain ⟨gl1, h1, -⟩ := hf 1 (by decide)
 obtain ⟨gl2, h2, -⟩ := hf 2 (by decide)
 obtain ⟨_, gl3, h3, -⟩ := hf 3 (by decide)
 have h4 := eqL (hf 4 (by decide)) rfl
 obtain ⟨v11_5, h5, hu5⟩ := hf 5 (by decide)
 have HU11_5 := Lib.hid hu5
 clear hu5
 obtain ⟨b11_6, h6, hgb6, hhb6⟩ := hf 6 (by decide)
 clear hf hap
 clear zsz z3
 subst ha0
 simp only [slotsKn11, putAll, h0, h1, h2, h3, h4, h5, h6, Act.put, List.setIfInBounds_toArray, List.set_cons_zero, List.set_cons_succ]
 clear h0 h1 h2 h3 h4 h5 h6
 refine tl_store rfl (by kernel_rfl) 28 (.tmp 20) (.tmp 86) rfl b11_6 ([.int .u64 1, v11_5]) _ rfl rfl _ hhb6 (by kernel_rfl) rfl (tb_ones _ HU11_5.out.one) ?_
 intro u11 hp6 hbl hot
 replace hS := hS.trans (hbl _ hgb6)
 replace HU11_5 := Lib.hid (HU11_5.out.hotb hhb6 ⟨_, _, _, rfl⟩ (by decide) (hbl 0 (Nat.zero_le _)).size hot)
 clear hbl hot hhb6
 try simp only [Act.put]
 refine tl_nilN ?_
 replace HX_b3_5 := Lib.hid (HX_b3_5.out.keepB hS)
 replace HX_b4_4 := Lib.hid (HX_b4_4.out.keepB hS)
 replace HU4_2 := Lib.hid (HU4_2.out.keep hS)
 replace HX_b5_5 := Lib.hid (HX_b5_5.out.keepB hS)
 replace HU5_3 := Lib.hid (HU5_3.out.keep hS)
 replace HX_b6_6 := Lib.hid (HX_b6_6.out.keepB hS)
 replace HU6_4 := Lib.hid (HU6_4.out.keep hS)
 replace HX_b7_5 := Lib.hid (HX_b7_5.out.keepB hS)
 replace HU7_3 := Lib.hid (HU7_3.out.keep hS)
 replace HU9_8 := Lib.hid (HU9_8.out.keep hS)
 replace HU9_9 := Lib.hid (HU9_9.out.keep hS)
 have HBW := Lib.hid HB.out.size
 replace HB := Lib.hid (HB.out.trans (hS.mono HB.out.size))
 clear hS
 have HGb11_6 : Hid (w.heap.size ≤ b11_6) := Lib.hid (Nat.le_trans HBW.out hgb6)
 have HX_b11_6 : Hid (Has u11 b11_6 28 ([.int .u64 1, v11_5])) := Lib.hid hp6
 clear hp6 hgb6
 clear HBW
 go_upto_region 12 with fail
 refine wp_act (fun a0 ha0 => ?_)
 have zsz : a0.tmps.size = 200 := by rw [ha0]; rfl
 have z20 : a0.eval (.tmp 20) = .pointer (some ⟨b11_6, 0, none⟩) := by rw [ha0]; rfl
 refine wrO [] slotsKn12 waitKn12 [Fct.val Flz 0 (.agg #[.int .u64 1, v11_5]), Fct.obj 1 (fun v w => ∃ zz, v = .tuple #[.agg #[(fl zz 0), (fl zz 1), .int .u64 1, (fl zz 2)], .int .i64 0] ∧ ResR (([] : List Su)) (([shaU tZ] : List Su)) (Z12) w zz) (fun _ _ _ ⟨zz, a, b⟩ he => ⟨zz, a, b.flz he⟩), Fct.obj 2 (fun v w => ∃ zz, v = .tuple #[.agg #[(fl zz 0), (fl zz 1), .int .u64 1, (fl zz 2)], .int .i64 0] ∧ ResR (([] : List Su)) (([shaU tZ] : List Su)) (Z12) w zz) (fun _ _ _ ⟨zz, a, b⟩ he => ⟨zz, a, b.flz he⟩), Fct.obj 3 (fun v w => ∃ zz, v = .agg #[(fl zz 0), (fl zz 1), .int .u64 1, (fl zz 2)] ∧ ResR (([] : List Su)) (([shaU tZ] : List Su)) (Z12) w zz) (fun _ _ _ ⟨zz, a, b⟩ he => ⟨zz, a, b.flz he⟩), Fct.val Flz 4 (.int .i64 0), Fct.obj 5 (fun v w => ∃ g, v = .pointer (some ⟨g, 0, none⟩) ∧ u11.heap.size ≤ g ∧ Has w g 30 ([.slice none 0 0, .slice none 0 0, .int .u64 0, .slice none 0 0])) (fun _ _ _ ⟨g, a, b, c⟩ he => ⟨g, a, b, c.flz he (by decide)⟩)] (fun w' => Below u11.heap.size u11 w') _ 6 2 chkKn12 (by kernel_rfl) (by kernel_rfl) (by kernel_rfl) (by decide) (Below.refl _ _) ?_ ?_
 ·refine lt_s (lt_s (lt_s (lt_s (lt_s (lt_s (lt_0) ?_) ?_) ?_) ?_) ?_) ?_
  ·intro f w1 hS hf aA hA
   have r20 := qO 20 hA z20
   exact fV rfl rfl _ (ex_loadR 28 (.tmp 20) rfl ⟨b11_6, 0, none⟩ r20 (fun _ => by kernel_rfl) [.int .u64 1, v11_5] (by kernel_rfl) ((HX_b11_6.out.keepB hS).part [.int .u64 1, v11_5] 0 (fun j u hu => by rw [Nat.zero_add]; exact hu))) hS uS
  ·intro f w1 hS hf aA hA
   have r88 := qA 88 0 hA sbKn12 zsz (hf 0 (by decide))
   exact fC rfl rfl 9 #[(.tmp 88)] _ rfl #[.agg #[.int .u64 1, v11_5]] (mp1 r88) (fun w => by kernel_rfl) _ (allQ true 0 (([] : List Su)) (([shaU tZ] : List Su)) 1 _ (NEG (shaU tZ)) (Z12, [], [shaU tZ]) (NEG_peel _) (NEG_ok _) rfl rfl rfl w1 (by decide) (HL.out.keep (HB.out.trans (hS.mono HB.out.size)) HSZ.out) (by unfold NEG; rw [layT_len]; decide) (by unfold NEG; rw [layT_len]; decide) (HU11_5.out.keep hS)) hS (fun _ _ ⟨zz, a, b⟩ => ⟨zz, uS.trans a, b⟩)
  ·intro f w1 hS hf aA hA
   obtain ⟨x89, hx89, hr89⟩ := hf 1 (by decide)
   have e89 := pA 89 1 hA sbKn12 (by kernel_rfl) zsz rfl hx89
   exact flw_val rfl rfl (.tuple #[.agg #[(fl x89 0), (fl x89 1), .int .u64 1, (fl x89 2)], .int .i64 0]) (ex_move (.tmp 89) rfl e89) hS (Flz.refl _) ⟨x89, uS, hr89⟩
  ·intro f w1 hS hf aA hA
   obtain ⟨x87, hx87, hr87⟩ := hf 2 (by decide)
   have e87 := pA 87 2 hA sbKn12 (by kernel_rfl) zsz rfl hx87
   exact flw_val rfl rfl (.agg #[(fl x87 0), (fl x87 1), .int .u64 1, (fl x87 2)]) (ex_extract (.tmp 87) 0 rfl e87 rfl) hS (Flz.refl _) ⟨x87, uS, hr87⟩
  ·intro f w1 hS hf aA hA
   obtain ⟨x87, hx87, hr87⟩ := hf 2 (by decide)
   have e87 := pA 87 2 hA sbKn12 (by kernel_rfl) zsz rfl hx87
   exact fV rfl rfl _ (ex_extract (.tmp 87) 1 rfl e87 rfl) hS uS
  ·intro f w1 hS hf aA hA
   exact flw_wp rfl rfl (fun K hK => wp_alloc_row 30 rfl (.agg #[.slice none 0 0, .slice none 0 0, .int .u64 0, .slice none 0 0]) (fun w => by kernel_rfl) (hK _ _ (hS.alloc hS.size _) (Flz.al _ _) ⟨_, uS, hS.size, Has.made' _ _ _ _ rfl⟩))
 intro f x12 hS hf hap
 have h0 := eqL (hf 0 (by decide)) rfl
 obtain ⟨v12_1, h1, -⟩ := hf 1 (by decide)
 obtain ⟨v12_2, h2, -⟩ := hf 2 (by decide)
 obtain ⟨v12_3, h3, hu3⟩ := hf 3 (by decide)
 have HU12_3 := Lib.hid hu3
 clear hu3
 have h4 := eqL (hf 4 (by decide)) rfl
 obtain ⟨b12_5, h5, hgb5, hhb5⟩ := hf 5 (by decide)
 clear hf hap
 clear zsz z20
 subst ha0
 simp only [slotsKn12, putAll, h0, h1, h2, h3, h4, h5, Act.put, List.setIfInBounds_toArray, List.set_cons_zero, List.set_cons_succ]
 clear h0 h1 h2 h3 h4 h5
 refine tl_store rfl (by kernel_rfl) 30 (.tmp 21) (.tmp 90) rfl b12_5 ([(fl v12_3 0), (fl v12_3 1), .int .u64 1, (fl v12_3 2)]) _ rfl rfl _ hhb5 (by kernel_rfl) rfl (rs_ones HU12_3.out.p.oneC HU12_3.out.m.oneC _ HU12_3.out.l.oneC) ?_
 intro u12 hp5 hbl hot
 replace hS := hS.trans (hbl _ hgb5)
 replace HU12_3 := Lib.hid (HU12_3.out.hotr hhb5 hot)
 clear hbl hot hhb5
 try simp only [Act.put]
 refine tl_pure rfl (by kernel_rfl) (.int .i64 0) (ex_assign (.tmp 91) rfl rfl) ?_
 try simp only [Act.put, List.setIfInBounds_toArray, List.set_cons_zero, List.set_cons_succ]
 refine tl_nil ?_
 replace HX_b3_5 := Lib.hid (HX_b3_5.out.keepB hS)
 replace HX_b4_4 := Lib.hid (HX_b4_4.out.keepB hS)
 replace HU4_2 := Lib.hid (HU4_2.out.keep hS)
 replace HX_b5_5 := Lib.hid (HX_b5_5.out.keepB hS)
 replace HU5_3 := Lib.hid (HU5_3.out.keep hS)
 replace HX_b6_6 := Lib.hid (HX_b6_6.out.keepB hS)
 replace HU6_4 := Lib.hid (HU6_4.out.keep hS)
 replace HX_b7_5 := Lib.hid (HX_b7_5.out.keepB hS)
 replace HU7_3 := Lib.hid (HU7_3.out.keep hS)
 replace HU9_8 := Lib.hid (HU9_8.out.keep hS)
 replace HU9_9 := Lib.hid (HU9_9.out.keep hS)
 replace HX_b11_6 := Lib.hid (HX_b11_6.out.keepB hS)
 replace HU11_5 := Lib.hid (HU11_5.out.keep hS)
 have HBW := Lib.hid HB.out.size
 replace HB := Lib.hid (HB.out.trans (hS.mono HB.out.size))
 clear hS
 have HGb12_5 : Hid (w.heap.size ≤ b12_5) := Lib.hid (Nat.le_trans HBW.out hgb5)
 have HX_b12_5 : Hid (Has u12 b12_5 30 ([(fl v12_3 0), (fl v12_3 1), .int .u64 1, (fl v12_3 2)])) := Lib.hid hp5
 clear hp5 hgb5
 clear HBW
 go_upto_region 13 with fail
 refine wp_act (fun a0 ha0 => ?_)
 have zsz : a0.tmps.size = 200 := by rw [ha0]; rfl
 have z20 : a0.eval (.tmp 20) = .pointer (some ⟨b11_6, 0, none⟩) := by rw [ha0]; rfl
 refine wrO [] slotsKn13 waitKn13 [Fct.val Flz 0 (.agg #[.int .u64 1, v11_5]), Fct.obj 1 (fun v w => ∃ zz, v = .tuple #[(fl zz 0), (fl zz 1), .int .i64 10] ∧ OwnR (([] : List Su)) (([] : List Su)) w zz) (fun _ _ _ ⟨zz, a, b⟩ he => ⟨zz, a, b.flz he⟩), Fct.obj 2 (fun v w => ∃ zz, v = .tuple #[(fl zz 0), (fl zz 1), .int .i64 10] ∧ OwnR (([] : List Su)) (([] : List Su)) w zz) (fun _ _ _ ⟨zz, a, b⟩ he => ⟨zz, a, b.flz he⟩), Fct.obj 3 (fun v w => ∃ zz, v = (fl zz 0) ∧ OwnR (([] : List Su)) (([] : List Su)) w zz) (fun _ _ _ ⟨zz, a, b⟩ he => ⟨zz, a, b.flz he⟩), Fct.obj 4 (fun v w => ∃ zz, v = (fl zz 1) ∧ OwnR (([] : List Su)) (([] : List Su)) w zz) (fun _ _ _ ⟨zz, a, b⟩ he => ⟨zz, a, b.flz he⟩), Fct.val Flz 5 (.int .i64 10), Fct.obj 6 (fun v w => ∃ zz, v = (fl zz 0) ∧ OwnR (([] : List Su)) (([] : List Su)) w zz) (fun _ _ _ ⟨zz, a, b⟩ he => ⟨zz, a, b.flz he⟩), Fct.obj 7 (fun v w => ∃ zz, v = (fl zz 1) ∧ OwnR (([] : List Su)) (([] : List Su)) w zz) (fun _ _ _ ⟨zz, a, b⟩ he => ⟨zz, a, b.flz he⟩), Fct.val Flz 8 (.int .i64 10)] (fun w' => Below u12.heap.size u12 w') _ 9 0 chkKn13 (by kernel_rfl) (by kernel_rfl) (by kernel_rfl) (by decide) (Below.refl _ _) ?_ ?_
 ·refine lt_s (lt_s (lt_s (lt_s (lt_s (lt_s (lt_s (lt_s (lt_s (lt_0) ?_) ?_) ?_) ?_) ?_) ?_) ?_) ?_) ?_
  ·intro f w1 hS hf aA hA
   have r20 := qO 20 hA z20
   exact fV rfl rfl _ (ex_loadR 28 (.tmp 20) rfl ⟨b11_6, 0, none⟩ r20 (fun _ => by kernel_rfl) [.int .u64 1, v11_5] (by kernel_rfl) ((HX_b11_6.out.keepB hS).part [.int .u64 1, v11_5] 0 (fun j u hu => by rw [Nat.zero_add]; exact hu))) hS uS
  ·intro f w1 hS hf aA hA
   have r93 := qA 93 0 hA sbKn13 zsz (hf 0 (by decide))
   exact fC rfl rfl 13 #[(.tmp 93), _] _ rfl #[.agg #[.int .u64 1, v11_5], .slice none 0 0] (by simp only [List.map_toArray, List.map_cons, List.map_nil, r93]; rfl) (fun w => by kernel_rfl) _ (ownR_f 1 _ (NEG (shaU tZ)) _ (([] : List Su)) (NEG_own _) w1 (by decide) (HL.out.keep (HB.out.trans (hS.mono HB.out.size)) HSZ.out) (by unfold NEG; rw [layT_len]; decide) (by decide) (HU11_5.out.keep hS) (Us.nil _) (by unfold NEG; rw [layT_len]; decide) (by decide)) hS (fun _ _ ⟨zz, a, b⟩ => ⟨zz, uS.trans a, b⟩)
  ·intro f w1 hS hf aA hA
   obtain ⟨x94, hx94, hr94⟩ := hf 1 (by decide)
   have e94 := pA 94 1 hA sbKn13 (by kernel_rfl) zsz rfl hx94
   exact flw_val rfl rfl (.tuple #[(fl x94 0), (fl x94 1), .int .i64 10]) (ex_move (.tmp 94) rfl e94) hS (Flz.refl _) ⟨x94, uS, hr94⟩
  ·intro f w1 hS hf aA hA
   obtain ⟨x92, hx92, hr92⟩ := hf 2 (by decide)
   have e92 := pA 92 2 hA sbKn13 (by kernel_rfl) zsz rfl hx92
   exact flw_val rfl rfl ((fl x92 0)) (ex_extract (.tmp 92) 0 rfl e92 rfl) hS (Flz.refl _) ⟨x92, uS, hr92⟩
  ·intro f w1 hS hf aA hA
   obtain ⟨x92, hx92, hr92⟩ := hf 2 (by decide)
   have e92 := pA 92 2 hA sbKn13 (by kernel_rfl) zsz rfl hx92
   exact flw_val rfl rfl ((fl x92 1)) (ex_extract (.tmp 92) 1 rfl e92 rfl) hS (Flz.refl _) ⟨x92, uS, hr92⟩
  ·intro f w1 hS hf aA hA
   obtain ⟨x92, hx92, hr92⟩ := hf 2 (by decide)
   have e92 := pA 92 2 hA sbKn13 (by kernel_rfl) zsz rfl hx92
   exact fV rfl rfl _ (ex_extract (.tmp 92) 2 rfl e92 rfl) hS uS
  ·intro f w1 hS hf aA hA
   obtain ⟨x95, hx95, hr95⟩ := hf 3 (by decide)
   have e95 := pA 95 3 hA sbKn13 (by kernel_rfl) zsz rfl hx95
   exact flw_val rfl rfl ((fl x95 0)) (ex_assign (.tmp 95) rfl e95) hS (Flz.refl _) ⟨x95, uS, hr95⟩
  ·intro f w1 hS hf aA hA
   obtain ⟨x96, hx96, hr96⟩ := hf 4 (by decide)
   have e96 := pA 96 4 hA sbKn13 (by kernel_rfl) zsz rfl hx96
   exact flw_val rfl rfl ((fl x96 1)) (ex_assign (.tmp 96) rfl e96) hS (Flz.refl _) ⟨x96, uS, hr96⟩
  ·intro f w1 hS hf aA hA
   have r97 := qA 97 5 hA sbKn13 zsz (hf 5 (by decide))
   exact fV rfl rfl _ (ex_assign (.tmp 97) rfl r97) hS uS
 intro f u13 hS hf hap
 have h0 := eqL (hf 0 (by decide)) rfl
 obtain ⟨v13_1, h1, -⟩ := hf 1 (by decide)
 obtain ⟨v13_2, h2, -⟩ := hf 2 (by decide)
 obtain ⟨v13_3, h3, -⟩ := hf 3 (by decide)
 obtain ⟨v13_4, h4, -⟩ := hf 4 (by decide)
 have h5 := eqL (hf 5 (by decide)) rfl
 obtain ⟨v13_6, h6, -⟩ := hf 6 (by decide)
 obtain ⟨v13_7, h7, -⟩ := hf 7 (by decide)
 have h8 := eqL (hf 8 (by decide)) rfl
 clear hf hap
 clear zsz z20
 subst ha0
 simp only [slotsKn13, putAll, h0, h1, h2, h3, h4, h5, h6, h7, h8, Act.put, List.setIfInBounds_toArray, List.set_cons_zero, List.set_cons_succ]
 clear h0 h1 h2 h3 h4 h5 h6 h7 h8
 refine tl_nil ?_
 replace HX_b3_5 := Lib.hid (HX_b3_5.out.keepB hS)
 replace HX_b4_4 := Lib.hid (HX_b4_4.out.keepB hS)
 replace HU4_2 := Lib.hid (HU4_2.out.keep hS)
 replace HX_b5_5 := Lib.hid (HX_b5_5.out.keepB hS)
 replace HU5_3 := Lib.hid (HU5_3.out.keep hS)
 replace HX_b6_6 := Lib.hid (HX_b6_6.out.keepB hS)
 replace HU6_4 := Lib.hid (HU6_4.out.keep hS)
 replace HX_b7_5 := Lib.hid (HX_b7_5.out.keepB hS)
 replace HU7_3 := Lib.hid (HU7_3.out.keep hS)
 replace HU9_8 := Lib.hid (HU9_8.out.keep hS)
 replace HU9_9 := Lib.hid (HU9_9.out.keep hS)
 replace HX_b11_6 := Lib.hid (HX_b11_6.out.keepB hS)
 replace HU11_5 := Lib.hid (HU11_5.out.keep hS)
 replace HX_b12_5 := Lib.hid (HX_b12_5.out.keepB hS)
 replace HU12_3 := Lib.hid (HU12_3.out.keep hS)
 replace HB := Lib.hid (HB.out.trans (hS.mono HB.out.size))
 clear hS
 go_upto_region 14 with fail
 refine wp_act (fun a0 ha0 => ?_)
 have zsz : a0.tmps.size = 200 := by rw [ha0]; rfl
 have z3 : a0.eval (.tmp 3) = .pointer (some ⟨b4_4, 0, none⟩) := by rw [ha0]; rfl
 refine wrO [] slotsKn14 waitKn14 [Fct.val Flz 0 (.agg #[.int .u64 1, v4_2]), Fct.obj 1 (fun v w => ∃ g, v = .pointer (some ⟨g, 0, none⟩) ∧ u13.heap.size ≤ g ∧ Has w g 28 ([.int .u64 0, .slice none 0 0])) (fun _ _ _ ⟨g, a, b, c⟩ he => ⟨g, a, b, c.flz he (by decide)⟩)] (fun w' => Below u13.heap.size u13 w') _ 2 1 chkKn14 (by kernel_rfl) (by kernel_rfl) (by kernel_rfl) (by decide) (Below.refl _ _) ?_ ?_
 ·refine lt_s (lt_s (lt_0) ?_) ?_
  ·intro f w1 hS hf aA hA
   have r3 := qO 3 hA z3
   exact fV rfl rfl _ (ex_loadR 28 (.tmp 3) rfl ⟨b4_4, 0, none⟩ r3 (fun _ => by kernel_rfl) [.int .u64 1, v4_2] (by kernel_rfl) ((HX_b4_4.out.keepB hS).part [.int .u64 1, v4_2] 0 (fun j u hu => by rw [Nat.zero_add]; exact hu))) hS uS
  ·intro f w1 hS hf aA hA
   exact flw_wp rfl rfl (fun K hK => wp_alloc_row 28 rfl (.agg #[.int .u64 0, .slice none 0 0]) (fun w => by kernel_rfl) (hK _ _ (hS.alloc hS.size _) (Flz.al _ _) ⟨_, uS, hS.size, Has.made' _ _ _ _ rfl⟩))
 intro f x14 hS hf hap
 have h0 := eqL (hf 0 (by decide)) rfl
 obtain ⟨b14_1, h1, hgb1, hhb1⟩ := hf 1 (by decide)
 clear hf hap
 clear zsz z3
 subst ha0
 simp only [slotsKn14, putAll, h0, h1, Act.put, List.setIfInBounds_toArray, List.set_cons_zero, List.set_cons_succ]
 clear h0 h1
 have HX26z : Hid (Has x14 b14_1 28 [.int .u64 0, .slice none 0 0]) := Lib.hid hhb1
 have HG26 : Hid (u13.heap.size ≤ b14_1) := Lib.hid hgb1
 have HBZ := Lib.hid hS
 have HGW : Hid (w.heap.size ≤ u13.heap.size) := Lib.hid HB.out.size
 clear hhb1 hgb1 hS
 refine tl_store rfl (by kernel_rfl) 28 (.tmp 26) (.tmp 98) rfl b14_1 [.int .u64 1, v4_2] _ rfl rfl _ HX26z.out (by kernel_rfl) rfl (tb_ones _ HU4_2.out.one) ?_
 intro u14 hp hbl hot
 have HX26 := Lib.hid hp
 have HBK : Hid (Below u13.heap.size u13 u14) := Lib.hid (HBZ.out.trans (hbl _ HG26.out))
 clear hp hbl hot HX26z HBZ
 try simp only [Act.put]
 refine tl_nil ?_
 have HXF := Lib.hid (HX_b4_4.out.keepB HBK.out)
 have HCF := Lib.hid (HU4_2.out.keep HBK.out)
 have HB14 := Lib.hid (HB.out.trans (HBK.out.mono HB.out.size))
 have HBO := HB
 clear HB
 have HB := HB14
 clear HB14
 go_upto_region 15 with fail
 refine wp_act (fun a0 ha0 => ?_)
 have zsz : a0.tmps.size = 200 := by rw [ha0]; rfl
 have z3 : a0.eval (.tmp 3) = .pointer (some ⟨b4_4, 0, none⟩) := by rw [ha0]; rfl
 have z26 : a0.eval (.tmp 26) = .pointer (some ⟨b14_1, 0, none⟩) := by rw [ha0]; rfl
 refine wrO [] slotsKn15 waitKn15 [Fct.obj 0 (fun v w => ∃ zz, v = .slice (some ⟨zz, 0, none⟩) 0 0 ∧ RowO u14.heap.size 47 w (.slice (some ⟨zz, 0, none⟩) 0 0) []) (fun _ _ _ ⟨zz, a, b⟩ he => ⟨zz, a, b.flz he⟩), Fct.val Flz 1 (.pointer (some ⟨b4_4, 1, none⟩)), Fct.val Flz 2 (v4_2), Fct.obj 3 (fun v w => ∃ zz, v = zz ∧ RowO u14.heap.size 47 w zz (Z12)) (fun _ _ _ ⟨zz, a, b⟩ he => ⟨zz, a, b.flz he⟩), Fct.val Flz 4 (.pointer (some ⟨b14_1, 1, none⟩))] (fun w' => Below u14.heap.size u14 w') _ 5 1 chkKn15 (by kernel_rfl) (by kernel_rfl) (by kernel_rfl) (by decide) (Below.refl _ _) ?_ ?_
 ·refine lt_s (lt_s (lt_s (lt_s (lt_s (lt_0) ?_) ?_) ?_) ?_) ?_
  ·intro f w1 hS hf aA hA
   exact flw_wp rfl rfl (fun K hK => wp_none_ce 26 47 elC rfl (hK _ _ (hS.alloc hS.size _) (Flz.al _ _) ⟨_, uS, RowO.empty _ _ _ (by decide) hS.size⟩))
  ·intro f w1 hS hf aA hA
   have r3 := qO 3 hA z3
   exact fV rfl rfl _ (fldT1 28 (Or.inl rfl) (.tmp 3) rfl b4_4 r3) hS uS
  ·intro f w1 hS hf aA hA
   have r100 := qA 100 1 hA sbKn15 zsz (hf 1 (by decide))
   exact fV rfl rfl _ (ex_load1 26 (.tmp 100) rfl ⟨b4_4, 1, none⟩ r100 (fun _ => by kernel_rfl) ((HXF.out.keepB hS).cellv rfl)) hS uS
  ·intro f w1 hS hf aA hA
   obtain ⟨x99, hx99, hr99⟩ := hf 0 (by decide)
   have e99 := pA 99 0 hA sbKn15 (by kernel_rfl) zsz rfl hx99
   have r101 := qA 101 2 hA sbKn15 zsz (hf 2 (by decide))
   exact flw_wp rfl rfl (fun K hK => wp_app0_ce u14.heap.size 26 47 elC (.tmp 99) (.tmp 101) rfl x99 e99 hr99 _ _ r101 (HCF.out.keep hS) (by decide) hS.size (fun v' w' h1 h2 => hK _ _ (hS.trans (h2.mono hS.size)) (Flz.of h2) ⟨_, uS, h1⟩))
  ·intro f w1 hS hf aA hA
   have r26 := qO 26 hA z26
   exact fV rfl rfl _ (fldT1 28 (Or.inl rfl) (.tmp 26) rfl b14_1 r26) hS uS
 intro f u15 hS hf hap
 obtain ⟨v15_0, h0, hu0⟩ := hf 0 (by decide)
 have HU15_0 := Lib.hid hu0
 clear hu0
 clear HU15_0
 have h1 := eqL (hf 1 (by decide)) rfl
 have h2 := eqL (hf 2 (by decide)) rfl
 obtain ⟨v15_3, h3, hu3⟩ := hf 3 (by decide)
 have HU15_3 := Lib.hid hu3
 clear hu3
 have h4 := eqL (hf 4 (by decide)) rfl
 clear hf hap
 clear zsz z3 z26
 subst ha0
 simp only [slotsKn15, putAll, h0, h1, h2, h3, h4, Act.put, List.setIfInBounds_toArray, List.set_cons_zero, List.set_cons_succ]
 clear h0 h1 h2 h3 h4
 have HX26b := Lib.hid (HX26.out.keepB hS)
 have HBK2 := Lib.hid (HBK.out.trans (hS.mono HBK.out.size))
 have HB15 := Lib.hid (HB.out.trans (hS.mono HB.out.size))
 have HR15 : Hid (u13.heap.size ≤ u14.heap.size) := Lib.hid HBK.out.size
 clear hS HX26 HXF HCF HBK HB
 refine tl_step rfl rfl (fun K hK => wp_store_at 26 (by kernel_rfl) (.tmp 103) (.tmp 102) rfl b14_1 1 28 _ HX26b.out (by simp) rfl v15_3 HU15_3.out.one rfl (fun u16 hp hbl hot => hK _ _ ?_))
 have HX26 : Hid (Has u16 b14_1 28 [.int .u64 1, v15_3]) := Lib.hid hp
 have HO : Hid (RowO u13.heap.size 47 u16 v15_3 Z12) := Lib.hid ((HU15_3.out.less HR15.out).off fun j hj => hot j ((HU15_3.out.blkT j hj).ne HX26b.out.blkT (by decide)))
 have HBK := Lib.hid (HBK2.out.trans (hbl _ HG26.out))
 have HB := Lib.hid (HB15.out.trans (hbl _ (Nat.le_trans HGW.out HG26.out)))
 clear hp hbl hot HX26b HBK2 HB15 HU15_3
 refine tl_nil ?_
 try simp only [Act.put]
 have hz0 : 0 < Z12.length := by decide
 obtain ⟨gg, cap2, hgv, hgb, hgl, hel⟩ := HO.out.el hz0
 have HGV2 := Lib.hid hgv
 have HGB2 := Lib.hid hgb
 have HEL2 := Lib.hid hel
 clear hgv hgb hgl hel
 go_upto_region 16 with fail
 refine wp_act (fun a0 ha0 => ?_)
 have zsz : a0.tmps.size = 200 := by rw [ha0]; rfl
 have z26 : a0.eval (.tmp 26) = .pointer (some ⟨b14_1, 0, none⟩) := by rw [ha0]; rfl
 refine wrO [] slotsKn16 waitKn16 [Fct.val Flz 0 (.pointer (some ⟨b14_1, 1, none⟩)), Fct.val Flz 1 (v15_3), Fct.val Flz 2 (aggC ((5, zS, zS))), Fct.val Flz 3 (.pointer (some ((⟨gg, 0, none⟩ : Addr).add (0 * 65))))] (fun w' => Below u16.heap.size u16 w') _ 4 1 chkKn16 (by kernel_rfl) (by kernel_rfl) (by kernel_rfl) (by decide) (Below.refl _ _) ?_ ?_
 ·refine lt_s (lt_s (lt_s (lt_s (lt_0) ?_) ?_) ?_) ?_
  ·intro f w1 hS hf aA hA
   have r26 := qO 26 hA z26
   exact fV rfl rfl _ (fldT1 28 (Or.inl rfl) (.tmp 26) rfl b14_1 r26) hS uS
  ·intro f w1 hS hf aA hA
   have r104 := qA 104 0 hA sbKn16 zsz (hf 0 (by decide))
   exact fV rfl rfl _ (ex_load1 26 (.tmp 104) rfl ⟨b14_1, 1, none⟩ r104 (fun _ => by kernel_rfl) ((HX26.out.keepB hS).cellv rfl)) hS uS
  ·intro f w1 hS hf aA hA
   exact fV rfl rfl _ (ex_build 47 _ rfl (encC ((5, zS, zS))).toArray [(0, .int .i64 5)] (by kernel_rfl) (builtC1 5)) hS uS
  ·intro f w1 hS hf aA hA
   have r105 := qA 105 1 hA sbKn16 zsz (hf 1 (by decide))
   exact fV rfl rfl _ (ex_indexS 26 47 (.tmp 105) _ rfl (⟨gg, 0, none⟩ : Addr) Z12.length cap2 0 65 (by kernel_rfl) (fun _ => by kernel_rfl) (Eq.trans r105 HGV2.out) rfl hz0) hS uS
 intro f u17 hS hf hap
 have h0 := eqL (hf 0 (by decide)) rfl
 have h1 := eqL (hf 1 (by decide)) rfl
 have h2 := eqL (hf 2 (by decide)) rfl
 have h3 := eqL (hf 3 (by decide)) rfl
 clear hf hap
 clear zsz z26
 subst ha0
 simp only [slotsKn16, putAll, h0, h1, h2, h3, Act.put, List.setIfInBounds_toArray, List.set_cons_zero, List.set_cons_succ]
 clear h0 h1 h2 h3
 have HO17 := Lib.hid (HO.out.keep hS)
 have HX27 := Lib.hid (HX26.out.keepB hS)
 have HBK2 := Lib.hid (HBK.out.trans (hS.mono HBK.out.size))
 clear hS HO HX26 HBK HB
 refine tl_step rfl rfl (fun K hK => wp_store_ce 47 (by kernel_rfl) (.tmp 107) (.tmp 106) rfl u13.heap.size 47 v15_3 _ HO17.out gg cap2 0 HGV2.out hz0 rfl (5, zS, zS) rfl (fun u18 hR hbl hgr => hK _ _ ?_))
 have HO : Hid (RowO u13.heap.size 47 u18 v15_3 T5) := Lib.hid hR
 have HX26 : Hid (Has u18 b14_1 28 [.int .u64 1, v15_3]) := Lib.hid ((hgr.block _ HX27.out.lt (fun e => (HX27.out.blkT.ne (HO17.out.blkT gg (by rw [HGV2.out]; rfl)) (by decide)) (Option.some.inj e))).trans HX27.out)
 have HBK := Lib.hid (HBK2.out.trans (hbl _ HGB2.out))
 have HB := Lib.hid (HBO.out.trans (HBK.out.mono HBO.out.size))
 clear hR hbl hgr HO17 HX27 HBK2 HBO
 refine tl_nil ?_
 try simp only [Act.put]
 replace HX_b3_5 := Lib.hid (HX_b3_5.out.keepB HBK.out)
 replace HX_b4_4 := Lib.hid (HX_b4_4.out.keepB HBK.out)
 replace HU4_2 := Lib.hid (HU4_2.out.keep HBK.out)
 replace HX_b5_5 := Lib.hid (HX_b5_5.out.keepB HBK.out)
 replace HU5_3 := Lib.hid (HU5_3.out.keep HBK.out)
 replace HX_b6_6 := Lib.hid (HX_b6_6.out.keepB HBK.out)
 replace HU6_4 := Lib.hid (HU6_4.out.keep HBK.out)
 replace HX_b7_5 := Lib.hid (HX_b7_5.out.keepB HBK.out)
 replace HU7_3 := Lib.hid (HU7_3.out.keep HBK.out)
 replace HU9_8 := Lib.hid (HU9_8.out.keep HBK.out)
 replace HU9_9 := Lib.hid (HU9_9.out.keep HBK.out)
 replace HX_b11_6 := Lib.hid (HX_b11_6.out.keepB HBK.out)
 replace HU11_5 := Lib.hid (HU11_5.out.keep HBK.out)
 replace HX_b12_5 := Lib.hid (HX_b12_5.out.keepB HBK.out)
 replace HU12_3 := Lib.hid (HU12_3.out.keep HBK.out)
 go_upto_region 17 with fail
 refine wp_act (fun a0 ha0 => ?_)
 have zsz : a0.tmps.size = 200 := by rw [ha0]; rfl
 have z26 : a0.eval (.tmp 26) = .pointer (some ⟨b14_1, 0, none⟩) := by rw [ha0]; rfl
 refine wrO [] slotsKn17 waitKn17 [Fct.val Flz 0 (.agg #[.int .u64 1, v15_3]), Fct.obj 1 (fun v w => ∃ zz, v = .tuple #[.agg #[(fl zz 0), (fl zz 1), .int .u64 1, (fl zz 2)], .int .i64 10] ∧ ResR (([] : List Su)) (([] : List Su)) (T5) w zz) (fun _ _ _ ⟨zz, a, b⟩ he => ⟨zz, a, b.flz he⟩), Fct.obj 2 (fun v w => ∃ zz, v = .tuple #[.agg #[(fl zz 0), (fl zz 1), .int .u64 1, (fl zz 2)], .int .i64 10] ∧ ResR (([] : List Su)) (([] : List Su)) (T5) w zz) (fun _ _ _ ⟨zz, a, b⟩ he => ⟨zz, a, b.flz he⟩), Fct.obj 3 (fun v w => ∃ zz, v = .agg #[(fl zz 0), (fl zz 1), .int .u64 1, (fl zz 2)] ∧ ResR (([] : List Su)) (([] : List Su)) (T5) w zz) (fun _ _ _ ⟨zz, a, b⟩ he => ⟨zz, a, b.flz he⟩), Fct.val Flz 4 (.int .i64 10), Fct.obj 5 (fun v w => ∃ g, v = .pointer (some ⟨g, 0, none⟩) ∧ u18.heap.size ≤ g ∧ Has w g 30 ([.slice none 0 0, .slice none 0 0, .int .u64 0, .slice none 0 0])) (fun _ _ _ ⟨g, a, b, c⟩ he => ⟨g, a, b, c.flz he (by decide)⟩)] (fun w' => Below u18.heap.size u18 w') _ 6 2 chkKn17 (by kernel_rfl) (by kernel_rfl) (by kernel_rfl) (by decide) (Below.refl _ _) ?_ ?_
 ·refine lt_s (lt_s (lt_s (lt_s (lt_s (lt_s (lt_0) ?_) ?_) ?_) ?_) ?_) ?_
  ·intro f w1 hS hf aA hA
   have r26 := qO 26 hA z26
   exact fV rfl rfl _ (ex_loadR 28 (.tmp 26) rfl ⟨b14_1, 0, none⟩ r26 (fun _ => by kernel_rfl) [.int .u64 1, v15_3] (by kernel_rfl) ((HX26.out.keepB hS).part [.int .u64 1, v15_3] 0 (fun j u hu => by rw [Nat.zero_add]; exact hu))) hS uS
  ·intro f w1 hS hf aA hA
   have r109 := qA 109 0 hA sbKn17 zsz (hf 0 (by decide))
   exact fC rfl rfl 9 #[(.tmp 109)] _ rfl #[.agg #[.int .u64 1, v15_3]] (mp1 r109) (fun w => by kernel_rfl) _ (allQ false 10 (([] : List Su)) (([] : List Su)) 1 _ (T5) (T5, [], []) T5_peel T5_no rfl rfl rfl w1 (by decide) (HL.out.keep (HB.out.trans (hS.mono HB.out.size)) HSZ.out) (by rw [T5_len]; decide) (by rw [T5_len]; decide) (HO.out.keep hS).cs) hS (fun _ _ ⟨zz, a, b⟩ => ⟨zz, uS.trans a, b⟩)
  ·intro f w1 hS hf aA hA
   obtain ⟨x110, hx110, hr110⟩ := hf 1 (by decide)
   have e110 := pA 110 1 hA sbKn17 (by kernel_rfl) zsz rfl hx110
   exact flw_val rfl rfl (.tuple #[.agg #[(fl x110 0), (fl x110 1), .int .u64 1, (fl x110 2)], .int .i64 10]) (ex_move (.tmp 110) rfl e110) hS (Flz.refl _) ⟨x110, uS, hr110⟩
  ·intro f w1 hS hf aA hA
   obtain ⟨x108, hx108, hr108⟩ := hf 2 (by decide)
   have e108 := pA 108 2 hA sbKn17 (by kernel_rfl) zsz rfl hx108
   exact flw_val rfl rfl (.agg #[(fl x108 0), (fl x108 1), .int .u64 1, (fl x108 2)]) (ex_extract (.tmp 108) 0 rfl e108 rfl) hS (Flz.refl _) ⟨x108, uS, hr108⟩
  ·intro f w1 hS hf aA hA
   obtain ⟨x108, hx108, hr108⟩ := hf 2 (by decide)
   have e108 := pA 108 2 hA sbKn17 (by kernel_rfl) zsz rfl hx108
   exact fV rfl rfl _ (ex_extract (.tmp 108) 1 rfl e108 rfl) hS uS
  ·intro f w1 hS hf aA hA
   exact flw_wp rfl rfl (fun K hK => wp_alloc_row 30 rfl (.agg #[.slice none 0 0, .slice none 0 0, .int .u64 0, .slice none 0 0]) (fun w => by kernel_rfl) (hK _ _ (hS.alloc hS.size _) (Flz.al _ _) ⟨_, uS, hS.size, Has.made' _ _ _ _ rfl⟩))
 intro f x17 hS hf hap
 have h0 := eqL (hf 0 (by decide)) rfl
 obtain ⟨v17_1, h1, -⟩ := hf 1 (by decide)
 obtain ⟨v17_2, h2, -⟩ := hf 2 (by decide)
 obtain ⟨v17_3, h3, hu3⟩ := hf 3 (by decide)
 have HU17_3 := Lib.hid hu3
 clear hu3
 have h4 := eqL (hf 4 (by decide)) rfl
 obtain ⟨b17_5, h5, hgb5, hhb5⟩ := hf 5 (by decide)
 clear hf hap
 clear zsz z26
 subst ha0
 simp only [slotsKn17, putAll, h0, h1, h2, h3, h4, h5, Act.put, List.setIfInBounds_toArray, List.set_cons_zero, List.set_cons_succ]
 clear h0 h1 h2 h3 h4 h5
 refine tl_store rfl (by kernel_rfl) 30 (.tmp 27) (.tmp 111) rfl b17_5 ([(fl v17_3 0), (fl v17_3 1), .int .u64 1, (fl v17_3 2)]) _ rfl rfl _ hhb5 (by kernel_rfl) rfl (rs_ones HU17_3.out.p.oneC HU17_3.out.m.oneC _ HU17_3.out.l.oneC) ?_
 intro u19 hp5 hbl hot
 replace hS := hS.trans (hbl _ hgb5)
 replace HU17_3 := Lib.hid (HU17_3.out.hotr hhb5 hot)
 clear hbl hot hhb5
 try simp only [Act.put]
 refine tl_pure rfl (by kernel_rfl) (.int .i64 10) (ex_assign (.tmp 112) rfl rfl) ?_
 try simp only [Act.put, List.setIfInBounds_toArray, List.set_cons_zero, List.set_cons_succ]
 refine tl_nil ?_
 replace HX_b3_5 := Lib.hid (HX_b3_5.out.keepB hS)
 replace HX_b4_4 := Lib.hid (HX_b4_4.out.keepB hS)
 replace HU4_2 := Lib.hid (HU4_2.out.keep hS)
 replace HX_b5_5 := Lib.hid (HX_b5_5.out.keepB hS)
 replace HU5_3 := Lib.hid (HU5_3.out.keep hS)
 replace HX_b6_6 := Lib.hid (HX_b6_6.out.keepB hS)
 replace HU6_4 := Lib.hid (HU6_4.out.keep hS)
 replace HX_b7_5 := Lib.hid (HX_b7_5.out.keepB hS)
 replace HU7_3 := Lib.hid (HU7_3.out.keep hS)
 replace HU9_8 := Lib.hid (HU9_8.out.keep hS)
 replace HU9_9 := Lib.hid (HU9_9.out.keep hS)
 replace HX_b11_6 := Lib.hid (HX_b11_6.out.keepB hS)
 replace HU11_5 := Lib.hid (HU11_5.out.keep hS)
 replace HX_b12_5 := Lib.hid (HX_b12_5.out.keepB hS)
 replace HU12_3 := Lib.hid (HU12_3.out.keep hS)
 replace HX26 := Lib.hid (HX26.out.keepB hS)
 replace HO := Lib.hid (HO.out.keep hS)
 have HBW := Lib.hid HB.out.size
 replace HB := Lib.hid (HB.out.trans (hS.mono HB.out.size))
 clear hS
 have HGb17_5 : Hid (w.heap.size ≤ b17_5) := Lib.hid (Nat.le_trans HBW.out hgb5)
 have HX_b17_5 : Hid (Has u19 b17_5 30 ([(fl v17_3 0), (fl v17_3 1), .int .u64 1, (fl v17_3 2)])) := Lib.hid hp5
 clear hp5 hgb5
 clear HBW
 go_upto_region 18 with fail
 have HST : Hid (Below u19.heap.size u19 u19.drew) := Lib.hid (Below.refl _ _).drew
 replace HX_b3_5 := Lib.hid (HX_b3_5.out.keepB HST.out)
 replace HX_b4_4 := Lib.hid (HX_b4_4.out.keepB HST.out)
 replace HU4_2 := Lib.hid (HU4_2.out.keep HST.out)
 replace HX_b5_5 := Lib.hid (HX_b5_5.out.keepB HST.out)
 replace HU5_3 := Lib.hid (HU5_3.out.keep HST.out)
 replace HX_b6_6 := Lib.hid (HX_b6_6.out.keepB HST.out)
 replace HU6_4 := Lib.hid (HU6_4.out.keep HST.out)
 replace HX_b7_5 := Lib.hid (HX_b7_5.out.keepB HST.out)
 replace HU7_3 := Lib.hid (HU7_3.out.keep HST.out)
 replace HU9_8 := Lib.hid (HU9_8.out.keep HST.out)
 replace HU9_9 := Lib.hid (HU9_9.out.keep HST.out)
 replace HX_b11_6 := Lib.hid (HX_b11_6.out.keepB HST.out)
 replace HU11_5 := Lib.hid (HU11_5.out.keep HST.out)
 replace HX_b12_5 := Lib.hid (HX_b12_5.out.keepB HST.out)
 replace HU12_3 := Lib.hid (HU12_3.out.keep HST.out)
 replace HX26 := Lib.hid (HX26.out.keepB HST.out)
 replace HO := Lib.hid (HO.out.keep HST.out)
 replace HX_b17_5 := Lib.hid (HX_b17_5.out.keepB HST.out)
 replace HU17_3 := Lib.hid (HU17_3.out.keep HST.out)
 replace HB := Lib.hid (HB.out.trans (HST.out.mono HB.out.size))
 clear HST
 try simp only [List.append_eq, List.cons_append, List.nil_append]
 refine wp_act (fun a0 ha0 => ?_)
 have zsz : a0.tmps.size = 200 := by rw [ha0]; rfl
 have z2 : a0.eval (.tmp 2) = .int .i64 1 := by rw [ha0]; rfl
 have z6 : a0.eval (.tmp 6) = .int .i64 0 := by rw [ha0]; rfl
 have z5 : a0.eval (.tmp 5) = .pointer (some ⟨b5_5, 0, none⟩) := by rw [ha0]; rfl
 have z10 : a0.eval (.tmp 10) = .int .i64 10 := by rw [ha0]; rfl
 have z9 : a0.eval (.tmp 9) = .pointer (some ⟨b7_5, 0, none⟩) := by rw [ha0]; rfl
 have z7 : a0.eval (.tmp 7) = .pointer (some ⟨b6_6, 0, none⟩) := by rw [ha0]; rfl
 have z13 : a0.eval (.tmp 13) = .int .i64 10 := by rw [ha0]; rfl
 have z16 : a0.eval (.tmp 16) = .int .i64 0 := by rw [ha0]; rfl
 have z14 : a0.eval (.tmp 14) = (fl v9_8 0) := by rw [ha0]; rfl
 have z15 : a0.eval (.tmp 15) = (fl v9_9 1) := by rw [ha0]; rfl
 have z19 : a0.eval (.tmp 19) = .int .i64 1 := by rw [ha0]; rfl
 have z22 : a0.eval (.tmp 22) = .int .i64 0 := by rw [ha0]; rfl
 have z21 : a0.eval (.tmp 21) = .pointer (some ⟨b12_5, 0, none⟩) := by rw [ha0]; rfl
 have z25 : a0.eval (.tmp 25) = .int .i64 10 := by rw [ha0]; rfl
 have z28 : a0.eval (.tmp 28) = .int .i64 10 := by rw [ha0]; rfl
 refine wrD [] slotsKn18 waitKn18 [Fct.val Flz 0 (.int .i64 1), Fct.val Flz 1 (.bool true), Fct.val Flz 2 (.bool true), Fct.val Flz 3 (.int .i64 0), Fct.val Flz 4 (.bool true), Fct.val Flz 5 (.bool true), Fct.val Flz 6 (.bool true), Fct.val Flz 7 (.pointer (some ⟨b5_5, 0, none⟩)), Fct.val Flz 8 ((fl v5_3 0)), Fct.val Flz 9 (.int .i64 0), Fct.val Flz 10 (.bool true), Fct.val Flz 11 (.bool true), Fct.val Flz 12 (.bool true), Fct.val Flz 13 (.pointer (some ⟨b5_5, 1, none⟩)), Fct.val Flz 14 ((fl v5_3 1)), Fct.val Flz 15 (.int .i64 0), Fct.val Flz 16 (.bool true), Fct.val Flz 17 (.bool true), Fct.val Flz 18 (.bool true), Fct.val Flz 19 (.pointer (some ⟨b5_5, 2, none⟩)), Fct.val Flz 20 (.agg #[.int .u64 1, (fl v5_3 2)]), Fct.val Flz 21 (.bool true), Fct.val Flz 22 (.bool true), Fct.val Flz 23 (.bool true), Fct.val Flz 24 (.int .i64 10), Fct.val Flz 25 (.bool true), Fct.val Flz 26 (.bool true), Fct.val Flz 27 (.bool true), Fct.val Flz 28 (.pointer (some ⟨b7_5, 0, none⟩)), Fct.val Flz 29 ((fl v7_3 0)), Fct.val Flz 30 (.int .i64 0), Fct.val Flz 31 (.bool true), Fct.val Flz 32 (.bool true), Fct.val Flz 33 (.bool true), Fct.val Flz 34 (.pointer (some ⟨b7_5, 2, none⟩)), Fct.val Flz 35 (.agg #[.int .u64 1, (fl v7_3 2)]), Fct.obj 36 (fun v w => ∃ zz, v = .agg #[.int .u64 1, zz] ∧ Cs w zz (T3)) (fun _ _ _ ⟨zz, a, b⟩ he => ⟨zz, a, b.flz he⟩), Fct.val Flz 37 (.agg #[.int .u64 1, v6_4]), Fct.obj 38 (fun v w => ∃ zz, v = .agg #[.int .u64 1, zz] ∧ Cs w zz (T3)) (fun _ _ _ ⟨zz, a, b⟩ he => ⟨zz, a, b.flz he⟩), Fct.val Flz 39 (.bool true), Fct.val Flz 40 (.bool true), Fct.val Flz 41 (.bool true), Fct.val Flz 42 (.int .i64 10), Fct.val Flz 43 (.bool true), Fct.val Flz 44 (.bool true), Fct.val Flz 45 (.bool true), Fct.val Flz 46 (.int .i64 0), Fct.val Flz 47 (.bool true), Fct.val Flz 48 (.bool true), Fct.val Flz 49 (.bool true), Fct.val Flz 50 ((fl v9_8 0)), Fct.val Flz 51 (.int .i64 0), Fct.val Flz 52 (.bool true), Fct.val Flz 53 (.bool true), Fct.val Flz 54 (.bool true), Fct.val Flz 55 ((fl v9_9 1)), Fct.val Flz 56 (.int .i64 0), Fct.val Flz 57 (.bool true), Fct.val Flz 58 (.bool true), Fct.val Flz 59 (.bool true), Fct.val Flz 60 (.int .i64 1), Fct.val Flz 61 (.bool true), Fct.val Flz 62 (.bool true), Fct.val Flz 63 (.bool true), Fct.val Flz 64 (.int .i64 0), Fct.val Flz 65 (.bool true), Fct.val Flz 66 (.bool true), Fct.val Flz 67 (.bool true), Fct.val Flz 68 (.pointer (some ⟨b12_5, 1, none⟩)), Fct.val Flz 69 ((fl v12_3 1)), Fct.val Flz 70 (.int .i64 1), Fct.val Flz 71 (.bool true), Fct.val Flz 72 (.bool true), Fct.val Flz 73 (.bool true), Fct.val Flz 74 (.pointer (some ⟨b12_5, 0, none⟩)), Fct.val Flz 75 ((fl v12_3 0)), Fct.val Flz 76 (.int .i64 0), Fct.val Flz 77 (.bool true), Fct.val Flz 78 (.bool true), Fct.val Flz 79 (.bool true), Fct.val Flz 80 (.int .i64 10), Fct.val Flz 81 (.bool true), Fct.val Flz 82 (.bool true), Fct.val Flz 83 (.bool true), Fct.val Flz 84 (.int .i64 10), Fct.val Flz 85 (.bool true), Fct.val Flz 86 (.bool true), Fct.val Flz 87 (.bool true)] (fun w' => Below u19.drew.heap.size u19.drew w') _ 88 0 chkKn18 (by kernel_rfl) (by kernel_rfl) (by kernel_rfl) (by kernel_rfl) (by decide) (Below.refl _ _) ?_ ?_
 ·refine lt_s (lt_s (lt_s (lt_s (lt_s (lt_s (lt_s (lt_s (lt_s (lt_s (lt_s (lt_s (lt_s (lt_s (lt_s (lt_s (lt_s (lt_s (lt_s (lt_s (lt_s (lt_s (lt_s (lt_s (lt_s (lt_s (lt_s (lt_s (lt_s (lt_s (lt_s (lt_s (lt_s (lt_s (lt_s (lt_s (lt_s (lt_s (lt_s (lt_s (lt_s (lt_s (lt_s (lt_s (lt_s (lt_s (lt_s (lt_s (lt_s (lt_s (lt_s (lt_s (lt_s (lt_s (lt_s (lt_s (lt_s (lt_s (lt_s (lt_s (lt_s (lt_s (lt_s (lt_s (lt_s (lt_s (lt_s (lt_s (lt_s (lt_s (lt_s (lt_s (lt_s (lt_s (lt_s (lt_s (lt_s (lt_s (lt_s (lt_s (lt_s (lt_s (lt_s (lt_s (lt_s (lt_s (lt_s (lt_s (lt_0) ?_) ?_) ?_) ?_) ?_) ?_) ?_) ?_) ?_) ?_) ?_) ?_) ?_) ?_) ?_) ?_) ?_) ?_) ?_) ?_) ?_) ?_) ?_) ?_) ?_) ?_) ?_) ?_) ?_) ?_) ?_) ?_) ?_) ?_) ?_) ?_) ?_) ?_) ?_) ?_) ?_) ?_) ?_) ?_) ?_) ?_) ?_) ?_) ?_) ?_) ?_) ?_) ?_) ?_) ?_) ?_) ?_) ?_) ?_) ?_) ?_) ?_) ?_) ?_) ?_) ?_) ?_) ?_) ?_) ?_) ?_) ?_) ?_) ?_) ?_) ?_) ?_) ?_) ?_) ?_) ?_) ?_) ?_) ?_) ?_) ?_) ?_) ?_
  ·intro f w1 hS hf aA hA
   have r2 := qO 2 hA z2
   exact fV rfl rfl _ (ex_move (.tmp 2) rfl r2) hS uS
  ·intro f w1 hS hf aA hA
   have r113 := qA 113 0 hA sbKn18 zsz (hf 0 (by decide))
   exact fV rfl rfl _ (Eq.trans (ex_int .eql _ _ (.tmp 113) _ rfl .i64 1 1 r113 rfl (.bool ((1 : Int) == (1 : Int))) (fun _ => rfl)) (by rw [(by decide : ((1 : Int) == (1 : Int)) = true)])) hS uS
  ·intro f w1 hS hf aA hA
   have r114 := qA 114 1 hA sbKn18 zsz (hf 1 (by decide))
   exact fV rfl rfl _ (ex_move (.tmp 114) rfl r114) hS uS
  ·intro f w1 hS hf aA hA
   have t115 := qG 115 2 hA sbKn18 zsz (hf 2 (by decide))
   have r6 := qO 6 hA z6
   exact fV rfl ((wanted_of rfl 115 rfl t115).trans rfl) _ (ex_move (.tmp 6) rfl r6) hS uS
  ·intro f w1 hS hf aA hA
   have t115 := qG 115 2 hA sbKn18 zsz (hf 2 (by decide))
   have r116 := qA 116 3 hA sbKn18 zsz (hf 3 (by decide))
   exact fV rfl ((wanted_of rfl 115 rfl t115).trans rfl) _ (Eq.trans (ex_int .eql _ _ (.tmp 116) _ rfl .i64 0 0 r116 rfl (.bool ((0 : Int) == (0 : Int))) (fun _ => rfl)) (by rw [(by decide : ((0 : Int) == (0 : Int)) = true)])) hS uS
  ·intro f w1 hS hf aA hA
   have r115 := qA 115 2 hA sbKn18 zsz (hf 2 (by decide))
   have r117 := qA 117 4 hA sbKn18 zsz (hf 4 (by decide))
   exact fV rfl rfl (.bool true) (ex_pick (.tmp 115) (.tmp 117) _ rfl true r115 ((if_pos rfl).trans r117)) hS uS
  ·intro f w1 hS hf aA hA
   have r118 := qA 118 5 hA sbKn18 zsz (hf 5 (by decide))
   exact fV rfl rfl _ (ex_move (.tmp 118) rfl r118) hS uS
  ·intro f w1 hS hf aA hA
   have t119 := qG 119 6 hA sbKn18 zsz (hf 6 (by decide))
   have r5 := qO 5 hA z5
   exact fV rfl ((wanted_of rfl 119 rfl t119).trans rfl) _ (fldR0 (.tmp 5) rfl b5_5 r5) hS uS
  ·intro f w1 hS hf aA hA
   have t119 := qG 119 6 hA sbKn18 zsz (hf 6 (by decide))
   have r120 := qA 120 7 hA sbKn18 zsz (hf 7 (by decide))
   exact fV rfl ((wanted_of rfl 119 rfl t119).trans rfl) _ (ex_load1 24 (.tmp 120) rfl ⟨b5_5, 0, none⟩ r120 (fun _ => by kernel_rfl) ((HX_b5_5.out.keepB hS).cellv rfl)) hS uS
  ·intro f w1 hS hf aA hA
   have t119 := qG 119 6 hA sbKn18 zsz (hf 6 (by decide))
   have r121 := qA 121 8 hA sbKn18 zsz (hf 8 (by decide))
   obtain ⟨q9, c9, hv9, _⟩ := (HU5_3.out.p.keep hS).cs
   exact fV rfl ((wanted_of rfl 119 rfl t119).trans rfl) _ (Eq.trans (ex_len 24 42 (.tmp 121) rfl (by kernel_rfl) q9 (([] : List Su)).length c9 (r121.trans hv9)) (by rw [show (((([] : List Su)).length : Nat) : Int) = 0 from rfl])) hS uS
  ·intro f w1 hS hf aA hA
   have t119 := qG 119 6 hA sbKn18 zsz (hf 6 (by decide))
   have r122 := qA 122 9 hA sbKn18 zsz (hf 9 (by decide))
   exact fV rfl ((wanted_of rfl 119 rfl t119).trans rfl) _ (Eq.trans (ex_int .eql _ _ (.tmp 122) _ rfl .i64 0 0 r122 rfl (.bool ((0 : Int) == (0 : Int))) (fun _ => rfl)) (by rw [(by decide : ((0 : Int) == (0 : Int)) = true)])) hS uS
  ·intro f w1 hS hf aA hA
   have r119 := qA 119 6 hA sbKn18 zsz (hf 6 (by decide))
   have r123 := qA 123 10 hA sbKn18 zsz (hf 10 (by decide))
   exact fV rfl rfl (.bool true) (ex_pick (.tmp 119) (.tmp 123) _ rfl true r119 ((if_pos rfl).trans r123)) hS uS
  ·intro f w1 hS hf aA hA
   have r124 := qA 124 11 hA sbKn18 zsz (hf 11 (by decide))
   exact fV rfl rfl _ (ex_move (.tmp 124) rfl r124) hS uS
  ·intro f w1 hS hf aA hA
   have t125 := qG 125 12 hA sbKn18 zsz (hf 12 (by decide))
   have r5 := qO 5 hA z5
   exact fV rfl ((wanted_of rfl 125 rfl t125).trans rfl) _ (fldR1 (.tmp 5) rfl b5_5 r5) hS uS
  ·intro f w1 hS hf aA hA
   have t125 := qG 125 12 hA sbKn18 zsz (hf 12 (by decide))
   have r126 := qA 126 13 hA sbKn18 zsz (hf 13 (by decide))
   exact fV rfl ((wanted_of rfl 125 rfl t125).trans rfl) _ (ex_load1 24 (.tmp 126) rfl ⟨b5_5, 1, none⟩ r126 (fun _ => by kernel_rfl) ((HX_b5_5.out.keepB hS).cellv rfl)) hS uS
  ·intro f w1 hS hf aA hA
   have t125 := qG 125 12 hA sbKn18 zsz (hf 12 (by decide))
   have r127 := qA 127 14 hA sbKn18 zsz (hf 14 (by decide))
   obtain ⟨q9, c9, hv9, _⟩ := (HU5_3.out.m.keep hS).cs
   exact fV rfl ((wanted_of rfl 125 rfl t125).trans rfl) _ (Eq.trans (ex_len 24 42 (.tmp 127) rfl (by kernel_rfl) q9 (([] : List Su)).length c9 (r127.trans hv9)) (by rw [show (((([] : List Su)).length : Nat) : Int) = 0 from rfl])) hS uS
  ·intro f w1 hS hf aA hA
   have t125 := qG 125 12 hA sbKn18 zsz (hf 12 (by decide))
   have r128 := qA 128 15 hA sbKn18 zsz (hf 15 (by decide))
   exact fV rfl ((wanted_of rfl 125 rfl t125).trans rfl) _ (Eq.trans (ex_int .eql _ _ (.tmp 128) _ rfl .i64 0 0 r128 rfl (.bool ((0 : Int) == (0 : Int))) (fun _ => rfl)) (by rw [(by decide : ((0 : Int) == (0 : Int)) = true)])) hS uS
  ·intro f w1 hS hf aA hA
   have r125 := qA 125 12 hA sbKn18 zsz (hf 12 (by decide))
   have r129 := qA 129 16 hA sbKn18 zsz (hf 16 (by decide))
   exact fV rfl rfl (.bool true) (ex_pick (.tmp 125) (.tmp 129) _ rfl true r125 ((if_pos rfl).trans r129)) hS uS
  ·intro f w1 hS hf aA hA
   have r130 := qA 130 17 hA sbKn18 zsz (hf 17 (by decide))
   exact fV rfl rfl _ (ex_move (.tmp 130) rfl r130) hS uS
  ·intro f w1 hS hf aA hA
   have t131 := qG 131 18 hA sbKn18 zsz (hf 18 (by decide))
   have r5 := qO 5 hA z5
   exact fV rfl ((wanted_of rfl 131 rfl t131).trans rfl) _ (fldR2 (.tmp 5) rfl b5_5 r5) hS uS
  ·intro f w1 hS hf aA hA
   have t131 := qG 131 18 hA sbKn18 zsz (hf 18 (by decide))
   have r132 := qA 132 19 hA sbKn18 zsz (hf 19 (by decide))
   exact fV rfl ((wanted_of rfl 131 rfl t131).trans rfl) _ (ex_loadR 28 (.tmp 132) rfl ⟨b5_5, 2, none⟩ r132 (fun _ => by kernel_rfl) [.int .u64 1, (fl v5_3 2)] (by kernel_rfl) ((HX_b5_5.out.keepB hS).part [.int .u64 1, (fl v5_3 2)] 2 (fun j u hu => rs_two j u hu))) hS uS
  ·intro f w1 hS hf aA hA
   have t131 := qG 131 18 hA sbKn18 zsz (hf 18 (by decide))
   have r133 := qA 133 20 hA sbKn18 zsz (hf 20 (by decide))
   exact fC rfl ((wanted_of rfl 131 rfl t131).trans rfl) 16 #[(.tmp 133)] _ rfl #[.agg #[.int .u64 1, (fl v5_3 2)]] (mp1 r133) (fun w => by kernel_rfl) _ (as_any (zeroT_any _ _ _ w1 (by decide) (HU5_3.out.l.keep hS).cs) (congrArg Value.bool (zero_repl (m := 12) (by decide)))) hS (fun _ _ h => uS.trans h)
  ·intro f w1 hS hf aA hA
   have r131 := qA 131 18 hA sbKn18 zsz (hf 18 (by decide))
   have r134 := qA 134 21 hA sbKn18 zsz (hf 21 (by decide))
   exact fV rfl rfl (.bool true) (ex_pick (.tmp 131) (.tmp 134) _ rfl true r131 ((if_pos rfl).trans r134)) hS uS
  ·intro f w1 hS hf aA hA
   have r135 := qA 135 22 hA sbKn18 zsz (hf 22 (by decide))
   exact fV rfl rfl _ (ex_move (.tmp 135) rfl r135) hS uS
  ·intro f w1 hS hf aA hA
   have t136 := qG 136 23 hA sbKn18 zsz (hf 23 (by decide))
   have r10 := qO 10 hA z10
   exact fV rfl ((wanted_of rfl 136 rfl t136).trans rfl) _ (ex_move (.tmp 10) rfl r10) hS uS
  ·intro f w1 hS hf aA hA
   have t136 := qG 136 23 hA sbKn18 zsz (hf 23 (by decide))
   have r137 := qA 137 24 hA sbKn18 zsz (hf 24 (by decide))
   exact fV rfl ((wanted_of rfl 136 rfl t136).trans rfl) _ (Eq.trans (ex_int .eql _ _ (.tmp 137) _ rfl .i64 10 10 r137 rfl (.bool ((10 : Int) == (10 : Int))) (fun _ => rfl)) (by rw [(by decide : ((10 : Int) == (10 : Int)) = true)])) hS uS
  ·intro f w1 hS hf aA hA
   have r136 := qA 136 23 hA sbKn18 zsz (hf 23 (by decide))
   have r138 := qA 138 25 hA sbKn18 zsz (hf 25 (by decide))
   exact fV rfl rfl (.bool true) (ex_pick (.tmp 136) (.tmp 138) _ rfl true r136 ((if_pos rfl).trans r138)) hS uS
  ·intro f w1 hS hf aA hA
   have r139 := qA 139 26 hA sbKn18 zsz (hf 26 (by decide))
   exact fV rfl rfl _ (ex_move (.tmp 139) rfl r139) hS uS
  ·intro f w1 hS hf aA hA
   have t140 := qG 140 27 hA sbKn18 zsz (hf 27 (by decide))
   have r9 := qO 9 hA z9
   exact fV rfl ((wanted_of rfl 140 rfl t140).trans rfl) _ (fldR0 (.tmp 9) rfl b7_5 r9) hS uS
  ·intro f w1 hS hf aA hA
   have t140 := qG 140 27 hA sbKn18 zsz (hf 27 (by decide))
   have r141 := qA 141 28 hA sbKn18 zsz (hf 28 (by decide))
   exact fV rfl ((wanted_of rfl 140 rfl t140).trans rfl) _ (ex_load1 24 (.tmp 141) rfl ⟨b7_5, 0, none⟩ r141 (fun _ => by kernel_rfl) ((HX_b7_5.out.keepB hS).cellv rfl)) hS uS
  ·intro f w1 hS hf aA hA
   have t140 := qG 140 27 hA sbKn18 zsz (hf 27 (by decide))
   have r142 := qA 142 29 hA sbKn18 zsz (hf 29 (by decide))
   obtain ⟨q9, c9, hv9, _⟩ := (HU7_3.out.p.keep hS).cs
   exact fV rfl ((wanted_of rfl 140 rfl t140).trans rfl) _ (Eq.trans (ex_len 24 42 (.tmp 142) rfl (by kernel_rfl) q9 (([] : List Su)).length c9 (r142.trans hv9)) (by rw [show (((([] : List Su)).length : Nat) : Int) = 0 from rfl])) hS uS
  ·intro f w1 hS hf aA hA
   have t140 := qG 140 27 hA sbKn18 zsz (hf 27 (by decide))
   have r143 := qA 143 30 hA sbKn18 zsz (hf 30 (by decide))
   exact fV rfl ((wanted_of rfl 140 rfl t140).trans rfl) _ (Eq.trans (ex_int .eql _ _ (.tmp 143) _ rfl .i64 0 0 r143 rfl (.bool ((0 : Int) == (0 : Int))) (fun _ => rfl)) (by rw [(by decide : ((0 : Int) == (0 : Int)) = true)])) hS uS
  ·intro f w1 hS hf aA hA
   have r140 := qA 140 27 hA sbKn18 zsz (hf 27 (by decide))
   have r144 := qA 144 31 hA sbKn18 zsz (hf 31 (by decide))
   exact fV rfl rfl (.bool true) (ex_pick (.tmp 140) (.tmp 144) _ rfl true r140 ((if_pos rfl).trans r144)) hS uS
  ·intro f w1 hS hf aA hA
   have r145 := qA 145 32 hA sbKn18 zsz (hf 32 (by decide))
   exact fV rfl rfl _ (ex_move (.tmp 145) rfl r145) hS uS
  ·intro f w1 hS hf aA hA
   have t146 := qG 146 33 hA sbKn18 zsz (hf 33 (by decide))
   have r9 := qO 9 hA z9
   exact fV rfl ((wanted_of rfl 146 rfl t146).trans rfl) _ (fldR2 (.tmp 9) rfl b7_5 r9) hS uS
  ·intro f w1 hS hf aA hA
   have t146 := qG 146 33 hA sbKn18 zsz (hf 33 (by decide))
   have r147 := qA 147 34 hA sbKn18 zsz (hf 34 (by decide))
   exact fV rfl ((wanted_of rfl 146 rfl t146).trans rfl) _ (ex_loadR 28 (.tmp 147) rfl ⟨b7_5, 2, none⟩ r147 (fun _ => by kernel_rfl) [.int .u64 1, (fl v7_3 2)] (by kernel_rfl) ((HX_b7_5.out.keepB hS).part [.int .u64 1, (fl v7_3 2)] 2 (fun j u hu => rs_two j u hu))) hS uS
  ·intro f w1 hS hf aA hA
   have t146 := qG 146 33 hA sbKn18 zsz (hf 33 (by decide))
   have r148 := qA 148 35 hA sbKn18 zsz (hf 35 (by decide))
   exact fC rfl ((wanted_of rfl 146 rfl t146).trans rfl) 18 #[(.tmp 148)] _ rfl #[.agg #[.int .u64 1, (fl v7_3 2)]] (mp1 r148) (fun w => by kernel_rfl) _ (tableOf_any 1 _ _ w1 (by rw [T3_len]; decide) (HU7_3.out.l.keep hS).cs) hS (fun _ _ ⟨zz, a, b⟩ => ⟨zz, uS.trans a, b⟩)
  ·intro f w1 hS hf aA hA
   have t146 := qG 146 33 hA sbKn18 zsz (hf 33 (by decide))
   have r7 := qO 7 hA z7
   exact fV rfl ((wanted_of rfl 146 rfl t146).trans rfl) _ (ex_loadR 28 (.tmp 7) rfl ⟨b6_6, 0, none⟩ r7 (fun _ => by kernel_rfl) [.int .u64 1, v6_4] (by kernel_rfl) ((HX_b6_6.out.keepB hS).part [.int .u64 1, v6_4] 0 (fun j u hu => by rw [Nat.zero_add]; exact hu))) hS uS
  ·intro f w1 hS hf aA hA
   have t146 := qG 146 33 hA sbKn18 zsz (hf 33 (by decide))
   have r150 := qA 150 37 hA sbKn18 zsz (hf 37 (by decide))
   exact fC rfl ((wanted_of rfl 146 rfl t146).trans rfl) 18 #[(.tmp 150)] _ rfl #[.agg #[.int .u64 1, v6_4]] (mp1 r150) (fun w => by kernel_rfl) _ (tableOf_any 1 _ _ w1 (by rw [T3_len]; decide) (HU6_4.out.keep hS)) hS (fun _ _ ⟨zz, a, b⟩ => ⟨zz, uS.trans a, b⟩)
  ·intro f w1 hS hf aA hA
   have t146 := qG 146 33 hA sbKn18 zsz (hf 33 (by decide))
   obtain ⟨x149, hx149, hr149⟩ := hf 36 (by decide)
   have e149 := pA 149 36 hA sbKn18 (by kernel_rfl) zsz rfl hx149
   obtain ⟨x151, hx151, hr151⟩ := hf 38 (by decide)
   have e151 := pA 151 38 hA sbKn18 (by kernel_rfl) zsz rfl hx151
   exact fC rfl ((wanted_of rfl 146 rfl t146).trans rfl) 17 #[(.tmp 149), (.tmp 151)] _ rfl #[.agg #[.int .u64 1, x149], .agg #[.int .u64 1, x151]] (mp2 e149 e151) (fun w => by kernel_rfl) _ (sameT_eq 1 _ (T3) _ (T3) rfl w1 (by rw [T3_len]; decide) hr149 hr151) hS (fun _ _ h => uS.trans h)
  ·intro f w1 hS hf aA hA
   have r146 := qA 146 33 hA sbKn18 zsz (hf 33 (by decide))
   have r152 := qA 152 39 hA sbKn18 zsz (hf 39 (by decide))
   exact fV rfl rfl (.bool true) (ex_pick (.tmp 146) (.tmp 152) _ rfl true r146 ((if_pos rfl).trans r152)) hS uS
  ·intro f w1 hS hf aA hA
   have r153 := qA 153 40 hA sbKn18 zsz (hf 40 (by decide))
   exact fV rfl rfl _ (ex_move (.tmp 153) rfl r153) hS uS
  ·intro f w1 hS hf aA hA
   have t154 := qG 154 41 hA sbKn18 zsz (hf 41 (by decide))
   have r13 := qO 13 hA z13
   exact fV rfl ((wanted_of rfl 154 rfl t154).trans rfl) _ (ex_move (.tmp 13) rfl r13) hS uS
  ·intro f w1 hS hf aA hA
   have t154 := qG 154 41 hA sbKn18 zsz (hf 41 (by decide))
   have r155 := qA 155 42 hA sbKn18 zsz (hf 42 (by decide))
   exact fV rfl ((wanted_of rfl 154 rfl t154).trans rfl) _ (Eq.trans (ex_int .eql _ _ (.tmp 155) _ rfl .i64 10 10 r155 rfl (.bool ((10 : Int) == (10 : Int))) (fun _ => rfl)) (by rw [(by decide : ((10 : Int) == (10 : Int)) = true)])) hS uS
  ·intro f w1 hS hf aA hA
   have r154 := qA 154 41 hA sbKn18 zsz (hf 41 (by decide))
   have r156 := qA 156 43 hA sbKn18 zsz (hf 43 (by decide))
   exact fV rfl rfl (.bool true) (ex_pick (.tmp 154) (.tmp 156) _ rfl true r154 ((if_pos rfl).trans r156)) hS uS
  ·intro f w1 hS hf aA hA
   have r157 := qA 157 44 hA sbKn18 zsz (hf 44 (by decide))
   exact fV rfl rfl _ (ex_move (.tmp 157) rfl r157) hS uS
  ·intro f w1 hS hf aA hA
   have t158 := qG 158 45 hA sbKn18 zsz (hf 45 (by decide))
   have r16 := qO 16 hA z16
   exact fV rfl ((wanted_of rfl 158 rfl t158).trans rfl) _ (ex_move (.tmp 16) rfl r16) hS uS
  ·intro f w1 hS hf aA hA
   have t158 := qG 158 45 hA sbKn18 zsz (hf 45 (by decide))
   have r159 := qA 159 46 hA sbKn18 zsz (hf 46 (by decide))
   exact fV rfl ((wanted_of rfl 158 rfl t158).trans rfl) _ (Eq.trans (ex_int .eql _ _ (.tmp 159) _ rfl .i64 0 0 r159 rfl (.bool ((0 : Int) == (0 : Int))) (fun _ => rfl)) (by rw [(by decide : ((0 : Int) == (0 : Int)) = true)])) hS uS
  ·intro f w1 hS hf aA hA
   have r158 := qA 158 45 hA sbKn18 zsz (hf 45 (by decide))
   have r160 := qA 160 47 hA sbKn18 zsz (hf 47 (by decide))
   exact fV rfl rfl (.bool true) (ex_pick (.tmp 158) (.tmp 160) _ rfl true r158 ((if_pos rfl).trans r160)) hS uS
  ·intro f w1 hS hf aA hA
   have r161 := qA 161 48 hA sbKn18 zsz (hf 48 (by decide))
   exact fV rfl rfl _ (ex_move (.tmp 161) rfl r161) hS uS
  ·intro f w1 hS hf aA hA
   have t162 := qG 162 49 hA sbKn18 zsz (hf 49 (by decide))
   have r14 := qO 14 hA z14
   exact fV rfl ((wanted_of rfl 162 rfl t162).trans rfl) _ (ex_move (.tmp 14) rfl r14) hS uS
  ·intro f w1 hS hf aA hA
   have t162 := qG 162 49 hA sbKn18 zsz (hf 49 (by decide))
   have r163 := qA 163 50 hA sbKn18 zsz (hf 50 (by decide))
   obtain ⟨q9, c9, hv9, _⟩ := (HU9_8.out.p.keep hS)
   exact fV rfl ((wanted_of rfl 162 rfl t162).trans rfl) _ (Eq.trans (ex_len 24 42 (.tmp 163) rfl (by kernel_rfl) q9 (([] : List Su)).length c9 (r163.trans hv9)) (by rw [show (((([] : List Su)).length : Nat) : Int) = 0 from rfl])) hS uS
  ·intro f w1 hS hf aA hA
   have t162 := qG 162 49 hA sbKn18 zsz (hf 49 (by decide))
   have r164 := qA 164 51 hA sbKn18 zsz (hf 51 (by decide))
   exact fV rfl ((wanted_of rfl 162 rfl t162).trans rfl) _ (Eq.trans (ex_int .eql _ _ (.tmp 164) _ rfl .i64 0 0 r164 rfl (.bool ((0 : Int) == (0 : Int))) (fun _ => rfl)) (by rw [(by decide : ((0 : Int) == (0 : Int)) = true)])) hS uS
  ·intro f w1 hS hf aA hA
   have r162 := qA 162 49 hA sbKn18 zsz (hf 49 (by decide))
   have r165 := qA 165 52 hA sbKn18 zsz (hf 52 (by decide))
   exact fV rfl rfl (.bool true) (ex_pick (.tmp 162) (.tmp 165) _ rfl true r162 ((if_pos rfl).trans r165)) hS uS
  ·intro f w1 hS hf aA hA
   have r166 := qA 166 53 hA sbKn18 zsz (hf 53 (by decide))
   exact fV rfl rfl _ (ex_move (.tmp 166) rfl r166) hS uS
  ·intro f w1 hS hf aA hA
   have t167 := qG 167 54 hA sbKn18 zsz (hf 54 (by decide))
   have r15 := qO 15 hA z15
   exact fV rfl ((wanted_of rfl 167 rfl t167).trans rfl) _ (ex_move (.tmp 15) rfl r15) hS uS
  ·intro f w1 hS hf aA hA
   have t167 := qG 167 54 hA sbKn18 zsz (hf 54 (by decide))
   have r168 := qA 168 55 hA sbKn18 zsz (hf 55 (by decide))
   obtain ⟨q9, c9, hv9, _⟩ := (HU9_9.out.m.keep hS)
   exact fV rfl ((wanted_of rfl 167 rfl t167).trans rfl) _ (Eq.trans (ex_len 24 42 (.tmp 168) rfl (by kernel_rfl) q9 (([] : List Su)).length c9 (r168.trans hv9)) (by rw [show (((([] : List Su)).length : Nat) : Int) = 0 from rfl])) hS uS
  ·intro f w1 hS hf aA hA
   have t167 := qG 167 54 hA sbKn18 zsz (hf 54 (by decide))
   have r169 := qA 169 56 hA sbKn18 zsz (hf 56 (by decide))
   exact fV rfl ((wanted_of rfl 167 rfl t167).trans rfl) _ (Eq.trans (ex_int .eql _ _ (.tmp 169) _ rfl .i64 0 0 r169 rfl (.bool ((0 : Int) == (0 : Int))) (fun _ => rfl)) (by rw [(by decide : ((0 : Int) == (0 : Int)) = true)])) hS uS
  ·intro f w1 hS hf aA hA
   have r167 := qA 167 54 hA sbKn18 zsz (hf 54 (by decide))
   have r170 := qA 170 57 hA sbKn18 zsz (hf 57 (by decide))
   exact fV rfl rfl (.bool true) (ex_pick (.tmp 167) (.tmp 170) _ rfl true r167 ((if_pos rfl).trans r170)) hS uS
  ·intro f w1 hS hf aA hA
   have r171 := qA 171 58 hA sbKn18 zsz (hf 58 (by decide))
   exact fV rfl rfl _ (ex_move (.tmp 171) rfl r171) hS uS
  ·intro f w1 hS hf aA hA
   have t172 := qG 172 59 hA sbKn18 zsz (hf 59 (by decide))
   have r19 := qO 19 hA z19
   exact fV rfl ((wanted_of rfl 172 rfl t172).trans rfl) _ (ex_move (.tmp 19) rfl r19) hS uS
  ·intro f w1 hS hf aA hA
   have t172 := qG 172 59 hA sbKn18 zsz (hf 59 (by decide))
   have r173 := qA 173 60 hA sbKn18 zsz (hf 60 (by decide))
   exact fV rfl ((wanted_of rfl 172 rfl t172).trans rfl) _ (Eq.trans (ex_int .eql _ _ (.tmp 173) _ rfl .i64 1 1 r173 rfl (.bool ((1 : Int) == (1 : Int))) (fun _ => rfl)) (by rw [(by decide : ((1 : Int) == (1 : Int)) = true)])) hS uS
  ·intro f w1 hS hf aA hA
   have r172 := qA 172 59 hA sbKn18 zsz (hf 59 (by decide))
   have r174 := qA 174 61 hA sbKn18 zsz (hf 61 (by decide))
   exact fV rfl rfl (.bool true) (ex_pick (.tmp 172) (.tmp 174) _ rfl true r172 ((if_pos rfl).trans r174)) hS uS
  ·intro f w1 hS hf aA hA
   have r175 := qA 175 62 hA sbKn18 zsz (hf 62 (by decide))
   exact fV rfl rfl _ (ex_move (.tmp 175) rfl r175) hS uS
  ·intro f w1 hS hf aA hA
   have t176 := qG 176 63 hA sbKn18 zsz (hf 63 (by decide))
   have r22 := qO 22 hA z22
   exact fV rfl ((wanted_of rfl 176 rfl t176).trans rfl) _ (ex_move (.tmp 22) rfl r22) hS uS
  ·intro f w1 hS hf aA hA
   have t176 := qG 176 63 hA sbKn18 zsz (hf 63 (by decide))
   have r177 := qA 177 64 hA sbKn18 zsz (hf 64 (by decide))
   exact fV rfl ((wanted_of rfl 176 rfl t176).trans rfl) _ (Eq.trans (ex_int .eql _ _ (.tmp 177) _ rfl .i64 0 0 r177 rfl (.bool ((0 : Int) == (0 : Int))) (fun _ => rfl)) (by rw [(by decide : ((0 : Int) == (0 : Int)) = true)])) hS uS
  ·intro f w1 hS hf aA hA
   have r176 := qA 176 63 hA sbKn18 zsz (hf 63 (by decide))
   have r178 := qA 178 65 hA sbKn18 zsz (hf 65 (by decide))
   exact fV rfl rfl (.bool true) (ex_pick (.tmp 176) (.tmp 178) _ rfl true r176 ((if_pos rfl).trans r178)) hS uS
  ·intro f w1 hS hf aA hA
   have r179 := qA 179 66 hA sbKn18 zsz (hf 66 (by decide))
   exact fV rfl rfl _ (ex_move (.tmp 179) rfl r179) hS uS
  ·intro f w1 hS hf aA hA
   have t180 := qG 180 67 hA sbKn18 zsz (hf 67 (by decide))
   have r21 := qO 21 hA z21
   exact fV rfl ((wanted_of rfl 180 rfl t180).trans rfl) _ (fldR1 (.tmp 21) rfl b12_5 r21) hS uS
  ·intro f w1 hS hf aA hA
   have t180 := qG 180 67 hA sbKn18 zsz (hf 67 (by decide))
   have r181 := qA 181 68 hA sbKn18 zsz (hf 68 (by decide))
   exact fV rfl ((wanted_of rfl 180 rfl t180).trans rfl) _ (ex_load1 24 (.tmp 181) rfl ⟨b12_5, 1, none⟩ r181 (fun _ => by kernel_rfl) ((HX_b12_5.out.keepB hS).cellv rfl)) hS uS
  ·intro f w1 hS hf aA hA
   have t180 := qG 180 67 hA sbKn18 zsz (hf 67 (by decide))
   have r182 := qA 182 69 hA sbKn18 zsz (hf 69 (by decide))
   obtain ⟨q9, c9, hv9, _⟩ := (HU12_3.out.m.keep hS).cs
   exact fV rfl ((wanted_of rfl 180 rfl t180).trans rfl) _ (Eq.trans (ex_len 24 42 (.tmp 182) rfl (by kernel_rfl) q9 (([shaU tZ] : List Su)).length c9 (r182.trans hv9)) (by rw [show (((([shaU tZ] : List Su)).length : Nat) : Int) = 1 from rfl])) hS uS
  ·intro f w1 hS hf aA hA
   have t180 := qG 180 67 hA sbKn18 zsz (hf 67 (by decide))
   have r183 := qA 183 70 hA sbKn18 zsz (hf 70 (by decide))
   exact fV rfl ((wanted_of rfl 180 rfl t180).trans rfl) _ (Eq.trans (ex_int .eql _ _ (.tmp 183) _ rfl .i64 1 1 r183 rfl (.bool ((1 : Int) == (1 : Int))) (fun _ => rfl)) (by rw [(by decide : ((1 : Int) == (1 : Int)) = true)])) hS uS
  ·intro f w1 hS hf aA hA
   have r180 := qA 180 67 hA sbKn18 zsz (hf 67 (by decide))
   have r184 := qA 184 71 hA sbKn18 zsz (hf 71 (by decide))
   exact fV rfl rfl (.bool true) (ex_pick (.tmp 180) (.tmp 184) _ rfl true r180 ((if_pos rfl).trans r184)) hS uS
  ·intro f w1 hS hf aA hA
   have r185 := qA 185 72 hA sbKn18 zsz (hf 72 (by decide))
   exact fV rfl rfl _ (ex_move (.tmp 185) rfl r185) hS uS
  ·intro f w1 hS hf aA hA
   have t186 := qG 186 73 hA sbKn18 zsz (hf 73 (by decide))
   have r21 := qO 21 hA z21
   exact fV rfl ((wanted_of rfl 186 rfl t186).trans rfl) _ (fldR0 (.tmp 21) rfl b12_5 r21) hS uS
  ·intro f w1 hS hf aA hA
   have t186 := qG 186 73 hA sbKn18 zsz (hf 73 (by decide))
   have r187 := qA 187 74 hA sbKn18 zsz (hf 74 (by decide))
   exact fV rfl ((wanted_of rfl 186 rfl t186).trans rfl) _ (ex_load1 24 (.tmp 187) rfl ⟨b12_5, 0, none⟩ r187 (fun _ => by kernel_rfl) ((HX_b12_5.out.keepB hS).cellv rfl)) hS uS
  ·intro f w1 hS hf aA hA
   have t186 := qG 186 73 hA sbKn18 zsz (hf 73 (by decide))
   have r188 := qA 188 75 hA sbKn18 zsz (hf 75 (by decide))
   obtain ⟨q9, c9, hv9, _⟩ := (HU12_3.out.p.keep hS).cs
   exact fV rfl ((wanted_of rfl 186 rfl t186).trans rfl) _ (Eq.trans (ex_len 24 42 (.tmp 188) rfl (by kernel_rfl) q9 (([] : List Su)).length c9 (r188.trans hv9)) (by rw [show (((([] : List Su)).length : Nat) : Int) = 0 from rfl])) hS uS
  ·intro f w1 hS hf aA hA
   have t186 := qG 186 73 hA sbKn18 zsz (hf 73 (by decide))
   have r189 := qA 189 76 hA sbKn18 zsz (hf 76 (by decide))
   exact fV rfl ((wanted_of rfl 186 rfl t186).trans rfl) _ (Eq.trans (ex_int .eql _ _ (.tmp 189) _ rfl .i64 0 0 r189 rfl (.bool ((0 : Int) == (0 : Int))) (fun _ => rfl)) (by rw [(by decide : ((0 : Int) == (0 : Int)) = true)])) hS uS
  ·intro f w1 hS hf aA hA
   have r186 := qA 186 73 hA sbKn18 zsz (hf 73 (by decide))
   have r190 := qA 190 77 hA sbKn18 zsz (hf 77 (by decide))
   exact fV rfl rfl (.bool true) (ex_pick (.tmp 186) (.tmp 190) _ rfl true r186 ((if_pos rfl).trans r190)) hS uS
  ·intro f w1 hS hf aA hA
   have r191 := qA 191 78 hA sbKn18 zsz (hf 78 (by decide))
   exact fV rfl rfl _ (ex_move (.tmp 191) rfl r191) hS uS
  ·intro f w1 hS hf aA hA
   have t192 := qG 192 79 hA sbKn18 zsz (hf 79 (by decide))
   have r25 := qO 25 hA z25
   exact fV rfl ((wanted_of rfl 192 rfl t192).trans rfl) _ (ex_move (.tmp 25) rfl r25) hS uS
  ·intro f w1 hS hf aA hA
   have t192 := qG 192 79 hA sbKn18 zsz (hf 79 (by decide))
   have r193 := qA 193 80 hA sbKn18 zsz (hf 80 (by decide))
   exact fV rfl ((wanted_of rfl 192 rfl t192).trans rfl) _ (Eq.trans (ex_int .eql _ _ (.tmp 193) _ rfl .i64 10 10 r193 rfl (.bool ((10 : Int) == (10 : Int))) (fun _ => rfl)) (by rw [(by decide : ((10 : Int) == (10 : Int)) = true)])) hS uS
  ·intro f w1 hS hf aA hA
   have r192 := qA 192 79 hA sbKn18 zsz (hf 79 (by decide))
   have r194 := qA 194 81 hA sbKn18 zsz (hf 81 (by decide))
   exact fV rfl rfl (.bool true) (ex_pick (.tmp 192) (.tmp 194) _ rfl true r192 ((if_pos rfl).trans r194)) hS uS
  ·intro f w1 hS hf aA hA
   have r195 := qA 195 82 hA sbKn18 zsz (hf 82 (by decide))
   exact fV rfl rfl _ (ex_move (.tmp 195) rfl r195) hS uS
  ·intro f w1 hS hf aA hA
   have t196 := qG 196 83 hA sbKn18 zsz (hf 83 (by decide))
   have r28 := qO 28 hA z28
   exact fV rfl ((wanted_of rfl 196 rfl t196).trans rfl) _ (ex_move (.tmp 28) rfl r28) hS uS
  ·intro f w1 hS hf aA hA
   have t196 := qG 196 83 hA sbKn18 zsz (hf 83 (by decide))
   have r197 := qA 197 84 hA sbKn18 zsz (hf 84 (by decide))
   exact fV rfl ((wanted_of rfl 196 rfl t196).trans rfl) _ (Eq.trans (ex_int .eql _ _ (.tmp 197) _ rfl .i64 10 10 r197 rfl (.bool ((10 : Int) == (10 : Int))) (fun _ => rfl)) (by rw [(by decide : ((10 : Int) == (10 : Int)) = true)])) hS uS
  ·intro f w1 hS hf aA hA
   have r196 := qA 196 83 hA sbKn18 zsz (hf 83 (by decide))
   have r198 := qA 198 85 hA sbKn18 zsz (hf 85 (by decide))
   exact fV rfl rfl (.bool true) (ex_pick (.tmp 196) (.tmp 198) _ rfl true r196 ((if_pos rfl).trans r198)) hS uS
  ·intro f w1 hS hf aA hA
   have r199 := qA 199 86 hA sbKn18 zsz (hf 86 (by decide))
   exact fV rfl rfl _ (ex_assign (.tmp 199) rfl r199) hS uS
 intro f u20 hS hf hap
 have h0 := eqL (hf 0 (by decide)) rfl
 have h1 := eqL (hf 1 (by decide)) rfl
 have h2 := eqL (hf 2 (by decide)) rfl
 have h3 := eqL (hf 3 (by decide)) rfl
 have h4 := eqL (hf 4 (by decide)) rfl
 have h5 := eqL (hf 5 (by decide)) rfl
 have h6 := eqL (hf 6 (by decide)) rfl
 have h7 := eqL (hf 7 (by decide)) rfl
 have h8 := eqL (hf 8 (by decide)) rfl
 have h9 := eqL (hf 9 (by decide)) rfl
 have h10 := eqL (hf 10 (by decide)) rfl
 have h11 := eqL (hf 11 (by decide)) rfl
 have h12 := eqL (hf 12 (by decide)) rfl
 have h13 := eqL (hf 13 (by decide)) rfl
 have h14 := eqL (hf 14 (by decide)) rfl
 have h15 := eqL (hf 15 (by decide)) rfl
 have h16 := eqL (hf 16 (by decide)) rfl
 have h17 := eqL (hf 17 (by decide)) rfl
 have h18 := eqL (hf 18 (by decide)) rfl
 have h19 := eqL (hf 19 (by decide)) rfl
 have h20 := eqL (hf 20 (by decide)) rfl
 have h21 := eqL (hf 21 (by decide)) rfl
 have h22 := eqL (hf 22 (by decide)) rfl
 have h23 := eqL (hf 23 (by decide)) rfl
 have h24 := eqL (hf 24 (by decide)) rfl
 have h25 := eqL (hf 25 (by decide)) rfl
 have h26 := eqL (hf 26 (by decide)) rfl
 have h27 := eqL (hf 27 (by decide)) rfl
 have h28 := eqL (hf 28 (by decide)) rfl
 have h29 := eqL (hf 29 (by decide)) rfl
 have h30 := eqL (hf 30 (by decide)) rfl
 have h31 := eqL (hf 31 (by decide)) rfl
 have h32 := eqL (hf 32 (by decide)) rfl
 have h33 := eqL (hf 33 (by decide)) rfl
 have h34 := eqL (hf 34 (by decide)) rfl
 have h35 := eqL (hf 35 (by decide)) rfl
 obtain ⟨v18_36, h36, hu36⟩ := hf 36 (by decide)
 have HU18_36 := Lib.hid hu36
 clear hu36
 have h37 := eqL (hf 37 (by decide)) rfl
 obtain ⟨v18_38, h38, hu38⟩ := hf 38 (by decide)
 have HU18_38 := Lib.hid hu38
 clear hu38
 have h39 := eqL (hf 39 (by decide)) rfl
 have h40 := eqL (hf 40 (by decide)) rfl
 have h41 := eqL (hf 41 (by decide)) rfl
 have h42 := eqL (hf 42 (by decide)) rfl
 have h43 := eqL (hf 43 (by decide)) rfl
 have h44 := eqL (hf 44 (by decide)) rfl
 have h45 := eqL (hf 45 (by decide)) rfl
 have h46 := eqL (hf 46 (by decide)) rfl
 have h47 := eqL (hf 47 (by decide)) rfl
 have h48 := eqL (hf 48 (by decide)) rfl
 have h49 := eqL (hf 49 (by decide)) rfl
 have h50 := eqL (hf 50 (by decide)) rfl
 have h51 := eqL (hf 51 (by decide)) rfl
 have h52 := eqL (hf 52 (by decide)) rfl
 have h53 := eqL (hf 53 (by decide)) rfl
 have h54 := eqL (hf 54 (by decide)) rfl
 have h55 := eqL (hf 55 (by decide)) rfl
 have h56 := eqL (hf 56 (by decide)) rfl
 have h57 := eqL (hf 57 (by decide)) rfl
 have h58 := eqL (hf 58 (by decide)) rfl
 have h59 := eqL (hf 59 (by decide)) rfl
 have h60 := eqL (hf 60 (by decide)) rfl
 have h61 := eqL (hf 61 (by decide)) rfl
 have h62 := eqL (hf 62 (by decide)) rfl
 have h63 := eqL (hf 63 (by decide)) rfl
 have h64 := eqL (hf 64 (by decide)) rfl
 have h65 := eqL (hf 65 (by decide)) rfl
 have h66 := eqL (hf 66 (by decide)) rfl
 have h67 := eqL (hf 67 (by decide)) rfl
 have h68 := eqL (hf 68 (by decide)) rfl
 have h69 := eqL (hf 69 (by decide)) rfl
 have h70 := eqL (hf 70 (by decide)) rfl
 have h71 := eqL (hf 71 (by decide)) rfl
 have h72 := eqL (hf 72 (by decide)) rfl
 have h73 := eqL (hf 73 (by decide)) rfl
 have h74 := eqL (hf 74 (by decide)) rfl
 have h75 := eqL (hf 75 (by decide)) rfl
 have h76 := eqL (hf 76 (by decide)) rfl
 have h77 := eqL (hf 77 (by decide)) rfl
 have h78 := eqL (hf 78 (by decide)) rfl
 have h79 := eqL (hf 79 (by decide)) rfl
 have h80 := eqL (hf 80 (by decide)) rfl
 have h81 := eqL (hf 81 (by decide)) rfl
 have h82 := eqL (hf 82 (by decide)) rfl
 have h83 := eqL (hf 83 (by decide)) rfl
 have h84 := eqL (hf 84 (by decide)) rfl
 have h85 := eqL (hf 85 (by decide)) rfl
 have h86 := eqL (hf 86 (by decide)) rfl
 have h87 := eqL (hf 87 (by decide)) rfl
 clear hf hap
 clear zsz z2 z6 z5 z10 z9 z7 z13 z16 z14 z15 z19 z22 z21 z25 z28
 subst ha0
 simp only [slotsKn18, putAll, h0, h1, h2, h3, h4, h5, h6, h7, h8, h9, h10, h11, h12, h13, h14, h15, h16, h17, h18, h19, h20, h21, h22, h23, h24, h25, h26, h27, h28, h29, h30, h31, h32, h33, h34, h35, h36, h37, h38, h39, h40, h41, h42, h43, h44, h45, h46, h47, h48, h49, h50, h51, h52, h53, h54, h55, h56, h57, h58, h59, h60, h61, h62, h63, h64, h65, h66, h67, h68, h69, h70, h71, h72, h73, h74, h75, h76, h77, h78, h79, h80, h81, h82, h83, h84, h85, h86, h87, Act.put, List.setIfInBounds_toArray, List.set_cons_zero, List.set_cons_succ]
 clear h0 h1 h2 h3 h4 h5 h6 h7 h8 h9 h10 h11 h12 h13 h14 h15 h16 h17 h18 h19 h20 h21 h22 h23 h24 h25 h26 h27 h28 h29 h30 h31 h32 h33 h34 h35 h36 h37 h38 h39 h40 h41 h42 h43 h44 h45 h46 h47 h48 h49 h50 h51 h52 h53 h54 h55 h56 h57 h58 h59 h60 h61 h62 h63 h64 h65 h66 h67 h68 h69 h70 h71 h72 h73 h74 h75 h76 h77 h78 h79 h80 h81 h82 h83 h84 h85 h86 h87
 refine tl_nilN ?_
 replace HX_b3_5 := Lib.hid (HX_b3_5.out.keepB hS)
 replace HX_b4_4 := Lib.hid (HX_b4_4.out.keepB hS)
 replace HU4_2 := Lib.hid (HU4_2.out.keep hS)
 replace HX_b5_5 := Lib.hid (HX_b5_5.out.keepB hS)
 replace HU5_3 := Lib.hid (HU5_3.out.keep hS)
 replace HX_b6_6 := Lib.hid (HX_b6_6.out.keepB hS)
 replace HU6_4 := Lib.hid (HU6_4.out.keep hS)
 replace HX_b7_5 := Lib.hid (HX_b7_5.out.keepB hS)
 replace HU7_3 := Lib.hid (HU7_3.out.keep hS)
 replace HU9_8 := Lib.hid (HU9_8.out.keep hS)
 replace HU9_9 := Lib.hid (HU9_9.out.keep hS)
 replace HX_b11_6 := Lib.hid (HX_b11_6.out.keepB hS)
 replace HU11_5 := Lib.hid (HU11_5.out.keep hS)
 replace HX_b12_5 := Lib.hid (HX_b12_5.out.keepB hS)
 replace HU12_3 := Lib.hid (HU12_3.out.keep hS)
 replace HX26 := Lib.hid (HX26.out.keepB hS)
 replace HO := Lib.hid (HO.out.keep hS)
 replace HX_b17_5 := Lib.hid (HX_b17_5.out.keepB hS)
 replace HU17_3 := Lib.hid (HU17_3.out.keep hS)
 replace HB := Lib.hid (HB.out.trans (hS.mono HB.out.size))
 clear hS
 go_wp2_with fail
 go_ret
 exact ⟨⟨_, rfl, rfl⟩, HB.out⟩
theorem peelKnown_any  (w : World) (hL : Laid w) : Calls Tryd.prog 3 #[] w fun e w' => (∃ v, e = .returned v ∧ v = .bool true) ∧ Below w.heap.size w w' := peelKnown_b  w w (Below.refl _ _) hL
theorem peelKnown_one (w : World) (hL : Laid w) : Calls Tryd.prog 3 #[] w fun e w' => e = .returned (.bool true) ∧ Below w.heap.size w w' := Calls.mono (peelKnown_any w hL) fun _ _ ⟨⟨_, h1, h2⟩, h3⟩ => ⟨h2 ▸ h1, h3⟩
end Go.Proofs.YtnkcehmgagpadaaDoor
