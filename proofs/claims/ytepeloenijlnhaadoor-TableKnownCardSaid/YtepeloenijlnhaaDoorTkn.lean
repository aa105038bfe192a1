/- The law TableKnown: it answers true. Condition: the sums' tables are laid. -/
import Derived.Test.YtepeloenijlnhaaDoorTa
namespace Go.Proofs.YtepeloenijlnhaaDoor
open Go.RowKit
def sOne : Su := ⟨1#8 :: List.replicate 31 0#8, by simp⟩
def Z4 : List Ce := List.replicate 4 zC
def Z12 : List Ce := List.replicate 12 zC
def Z15 : List Ce := List.replicate 15 zC
theorem same_tw (s : Nat) {L M : List Ce} (h : L = M) : (decide (s = s) && decide (L = M)) = true := by rw [h]; simp
theorem kn1 : goodN ((Z4).length : Int) = false := by decide
theorem kn2 : goodN ((Z12).length : Int) = true := by decide
theorem kn3 : zeroT Z12 = true := zero_repl (m := 12) (by decide)
theorem kn4 : zeroT ([] : List Ce) = false := by decide
theorem kn5 : zeroT Z4 = false := by unfold zeroT; rw [kn1]; rfl
theorem kn6 : cntT Z4 = 0 := by unfold cntT; rw [if_neg (by rw [kn1]; decide)]
theorem kn7 : layT putC 1 sOne Z4 = Z4 := by unfold layT; rw [places_none kn1]; rfl
theorem kn8 : cntT (layT takeC 1 sOne Z12) = -1 := by
  have hg : goodN ((layT takeC 1 sOne Z12).length : Int) = true := by rw [layT_len]; exact kn2
  have hl : (layT takeC 1 sOne Z12).length = 3 * 4 := by rw [layT_len]; rfl
  rw [cntT_sum hg hl, lay_sum (f := takeC) (d := -1) (fun c x => rfl) kn2 rfl]
  rw [show sumC (Z12.take 4) = 0 from sum_zero 12 4]; decide
theorem okM_seed {s t : Nat} {A B : List Ce} (h : s ≠ t) : okM s t A B = false := by unfold okM; rw [decide_eq_false h]; simp
theorem okM_len {s t : Nat} {A B : List Ce} (h : A.length ≠ B.length) : okM s t A B = false := by unfold okM; rw [decide_eq_false h]; simp
def waitKn1 (i : Nat) : List Nat := ([[], [0]] : List (List Nat)).getD i []
def slotsKn1 : List (Nat × Nat) := [(18, 0), (19, 1)]
theorem sbKn1 : slotsB slotsKn1 = true := by kernel_rfl
theorem chkKn1 : flwO slotsKn1 waitKn1 2 (regOf Tryd.f3.body 1) = true := by kernel_rfl
def waitKn3 (i : Nat) : List Nat := ([[], [0], [1], [1], [], [0, 1, 2, 3, 4], [0, 1, 2, 3, 4, 5]] : List (List Nat)).getD i []
def slotsKn3 : List (Nat × Nat) := [(21, 0), (20, 1), (22, 2), (23, 3), (1, 4), (2, 6)]
theorem sbKn3 : slotsB slotsKn3 = true := by kernel_rfl
theorem chkKn3 : flwO slotsKn3 waitKn3 5 (regOf Tryd.f3.body 3) = true := by kernel_rfl
def waitKn4 (i : Nat) : List Nat := ([[], [0], [1], [1], [], [0, 1, 2, 3, 4], [0, 1, 2, 3, 4, 5]] : List (List Nat)).getD i []
def slotsKn4 : List (Nat × Nat) := [(25, 0), (24, 1), (26, 2), (27, 3), (3, 4), (4, 6)]
theorem sbKn4 : slotsB slotsKn4 = true := by kernel_rfl
theorem chkKn4 : flwO slotsKn4 waitKn4 5 (regOf Tryd.f3.body 4) = true := by kernel_rfl
def waitKn5 (i : Nat) : List Nat := ([[], [0], [1], [1], [], [0, 1, 2, 3, 4], [0, 1, 2, 3, 4, 5]] : List (List Nat)).getD i []
def slotsKn5 : List (Nat × Nat) := [(29, 0), (28, 1), (30, 2), (31, 3), (5, 4), (6, 6)]
theorem sbKn5 : slotsB slotsKn5 = true := by kernel_rfl
theorem chkKn5 : flwO slotsKn5 waitKn5 5 (regOf Tryd.f3.body 5) = true := by kernel_rfl
def waitKn6 (i : Nat) : List Nat := ([[], [0], [1], [1], [], [0, 1, 2, 3, 4], [0, 1, 2, 3, 4, 5]] : List (List Nat)).getD i []
def slotsKn6 : List (Nat × Nat) := [(33, 0), (32, 1), (34, 2), (35, 3), (7, 4), (8, 6)]
theorem sbKn6 : slotsB slotsKn6 = true := by kernel_rfl
theorem chkKn6 : flwO slotsKn6 waitKn6 5 (regOf Tryd.f3.body 6) = true := by kernel_rfl
def waitKn7 (i : Nat) : List Nat := ([[], [0], [1], [1], [], [0, 1, 2, 3, 4], [0, 1, 2, 3, 4, 5]] : List (List Nat)).getD i []
def slotsKn7 : List (Nat × Nat) := [(37, 0), (36, 1), (38, 2), (39, 3), (9, 4), (10, 6)]
theorem sbKn7 : slotsB slotsKn7 = true := by kernel_rfl
theorem chkKn7 : flwO slotsKn7 waitKn7 5 (regOf Tryd.f3.body 7) = true := by kernel_rfl
def waitKn8 (i : Nat) : List Nat := ([[], [], [0, 1], [2], [3], [3], [], [0, 1, 2, 3, 4, 5, 6], [0, 1, 2, 3, 4, 5, 6, 7]] : List (List Nat)).getD i []
def slotsKn8 : List (Nat × Nat) := [(41, 0), (42, 1), (43, 2), (40, 3), (44, 4), (45, 5), (11, 6), (12, 8)]
theorem sbKn8 : slotsB slotsKn8 = true := by kernel_rfl
theorem chkKn8 : flwO slotsKn8 waitKn8 7 (regOf Tryd.f3.body 8) = true := by kernel_rfl
def waitKn9 (i : Nat) : List Nat := ([[], [], [0, 1], [2], [3], [3], [], [0, 1, 2, 3, 4, 5, 6], [0, 1, 2, 3, 4, 5, 6, 7]] : List (List Nat)).getD i []
def slotsKn9 : List (Nat × Nat) := [(47, 0), (48, 1), (49, 2), (46, 3), (50, 4), (51, 5), (13, 6), (14, 8)]
theorem sbKn9 : slotsB slotsKn9 = true := by kernel_rfl
theorem chkKn9 : flwO slotsKn9 waitKn9 7 (regOf Tryd.f3.body 9) = true := by kernel_rfl
def waitKn10 (i : Nat) : List Nat := ([[], [], [0, 1], [2], [3], [3], [], [0, 1, 2, 3, 4, 5, 6], [0, 1, 2, 3, 4, 5, 6, 7]] : List (List Nat)).getD i []
def slotsKn10 : List (Nat × Nat) := [(53, 0), (54, 1), (55, 2), (52, 3), (56, 4), (57, 5), (15, 6), (16, 8)]
theorem sbKn10 : slotsB slotsKn10 = true := by kernel_rfl
theorem chkKn10 : flwO slotsKn10 waitKn10 7 (regOf Tryd.f3.body 10) = true := by kernel_rfl
def waitKn11 (i : Nat) : List Nat := ([[], [0], [], [0, 1, 2]] : List (List Nat)).getD i []
def slotsKn11 : List (Nat × Nat) := [(58, 0), (59, 1), (17, 2)]
theorem sbKn11 : slotsB slotsKn11 = true := by kernel_rfl
theorem chkKn11 : flwO slotsKn11 waitKn11 3 (regOf Tryd.f3.body 11) = true := by kernel_rfl
def waitKn12 (i : Nat) : List Nat := ([[], [0], [1], [2], [2, 3], [2, 4], [5], [6], [6, 7], [6, 8], [9], [10], [10, 11], [10, 12], [13], [14], [14, 15], [14, 16], [17], [18], [18, 19], [18, 20], [18, 21], [22], [23], [23, 24], [23, 25], [26], [27], [27, 28], [27, 29], [30], [31], [31, 32], [31, 33], [31, 34], [35], [36], [36, 37], [36, 38], [36, 39], [40], [41], [41, 42], [41, 43], [41, 44], [45], [46], [46], [46, 47, 48], [46, 49], [46], [46, 51], [46, 50, 52], [46, 53], [54], [55], [55], [55, 56, 57], [55, 58], [55, 59], [55, 60], [61], [62], [62, 63], [62, 64], [65]] : List (List Nat)).getD i []
def slotsKn12 : List (Nat × Nat) := [(60, 0), (61, 1), (62, 2), (63, 3), (64, 4), (65, 5), (66, 6), (67, 7), (68, 8), (69, 9), (70, 10), (71, 11), (72, 12), (73, 13), (74, 14), (75, 15), (76, 16), (77, 17), (78, 18), (79, 19), (80, 20), (81, 21), (82, 22), (83, 23), (84, 24), (85, 25), (86, 26), (87, 27), (88, 28), (89, 29), (90, 30), (91, 31), (92, 32), (93, 33), (94, 34), (95, 35), (96, 36), (97, 37), (98, 38), (99, 39), (100, 40), (101, 41), (102, 42), (103, 43), (104, 44), (105, 45), (106, 46), (107, 47), (108, 48), (109, 49), (110, 50), (111, 51), (112, 52), (113, 53), (114, 54), (115, 55), (116, 56), (117, 57), (118, 58), (119, 59), (120, 60), (121, 61), (122, 62), (123, 63), (124, 64), (125, 65), (0, 66)]
theorem sbKn12 : slotsB slotsKn12 = true := by kernel_rfl
theorem chkKn12 : flwB slotsKn12 waitKn12 67 (regOf Tryd.f3.body 12) = true := by kernel_rfl
set_option maxHeartbeats 16000000 in
set_option maxRecDepth 100000 in
theorem tableKnown_b  (w w0 : World) (hB : Below w.heap.size w w0) (hL : Laid w) : Calls Tryd.prog 3 #[] w0 fun e w' => (∃ v, e = .returned v ∧ v = .bool true) ∧ Below w.heap.size w w' := by
  go_enter Tryd.func3, Tryd.ntmps3
  have HB := Lib.hid hB
  clear hB
  have HL := Lib.hid hL
  have HSZ := Lib.hid hL.size
  clear hL
  go_upto_region 1 with fail
  refine wp_act (fun a0 ha0 => ?_)
  have zsz : a0.tmps.size = 126 := by rw [ha0]; rfl
  refine wp_region_flwo (E := Flz) [] slotsKn1 waitKn1 [Fct.val Flz 0 (.bool true), Fct.val Flz 1 (.bool false)] (fun w' => Below w0.heap.size w0 w') _ 2 0 chkKn1 (by kernel_rfl) (by kernel_rfl) (by kernel_rfl) (by decide) (Below.refl _ _) ?_ ?_
  · refine lt_s (lt_s (lt_0) ?_) ?_
    · intro f w1 hS hf
      generalize hA : putAll _ _ f = aA
      exact flw_call rfl rfl 7 #[] _ rfl #[] (by kernel_rfl) (fun w => by kernel_rfl) (fun v _ => v = .bool true) (awake15_any w1 (HL.out.keep (HB.out.trans (hS.mono HB.out.size)) HSZ.out)) (fun v w' hr hb => ⟨hS.trans (hb.mono hS.size), Flz.of hb, (updF_self _ _ _).trans hr⟩)
    · intro f w1 hS hf
      generalize hA : putAll _ _ f = aA
      have h18 : f 0 = .bool true := hf 0 (by decide)
      have r18 : aA.eval (.tmp 18) = .bool true := by rw [← hA]; exact putAll_at f 18 0 slotsKn1 a0 sbKn1 (by kernel_rfl) zsz rfl h18
      exact flw_val rfl rfl (.bool false) (ex_not _ (.tmp 18) rfl r18) hS (Flz.refl _) (updF_self _ _ _)
  intro f u1 hS hf hap
  have h0 : f 0 = .bool true := hf 0 (by decide)
  have h1 : f 1 = .bool false := hf 1 (by decide)
  clear hf hap
  clear zsz
  subst ha0
  simp only [slotsKn1, putAll, h0, h1, Act.put, List.setIfInBounds_toArray, List.set_cons_zero, List.set_cons_succ]
  clear h0 h1
  refine tl_nil ?_
  replace HB := Lib.hid (HB.out.trans (hS.mono HB.out.size))
  clear hS
  go_upto_region 3 with fail
  refine wp_act (fun a0 ha0 => ?_)
  have zsz : a0.tmps.size = 126 := by rw [ha0]; rfl
  refine wp_region_flwo (E := Flz) [] slotsKn3 waitKn3 [Fct.obj 0 (fun v w => ∃ zz, v = .tuple #[.agg #[.int .u64 0, zz], .int .i64 1] ∧ Cs w zz (([] : List Ce))) (fun _ _ _ ⟨zz, a, b⟩ he => ⟨zz, a, b.flz he⟩), Fct.obj 1 (fun v w => ∃ zz, v = .tuple #[.agg #[.int .u64 0, zz], .int .i64 1] ∧ Cs w zz (([] : List Ce))) (fun _ _ _ ⟨zz, a, b⟩ he => ⟨zz, a, b.flz he⟩), Fct.obj 2 (fun v w => ∃ zz, v = .agg #[.int .u64 0, zz] ∧ Cs w zz (([] : List Ce))) (fun _ _ _ ⟨zz, a, b⟩ he => ⟨zz, a, b.flz he⟩), Fct.val Flz 3 (.int .i64 1), Fct.obj 4 (fun v w => ∃ g, v = .pointer (some ⟨g, 0, none⟩) ∧ u1.heap.size ≤ g ∧ Has w g 26 ([.int .u64 0, .slice none 0 0])) (fun _ _ _ ⟨g, a, b, c⟩ he => ⟨g, a, b, c.flz he (by decide)⟩)] (fun w' => Below u1.heap.size u1 w') _ 5 2 chkKn3 (by kernel_rfl) (by kernel_rfl) (by kernel_rfl) (by decide) (Below.refl _ _) ?_ ?_
  · refine lt_s (lt_s (lt_s (lt_s (lt_s (lt_0) ?_) ?_) ?_) ?_) ?_
    · intro f w1 hS hf
      generalize hA : putAll _ _ f = aA
      exact flw_call rfl rfl 8 #[_, _] _ rfl #[.int .u64 1, .int .i64 4] (by simp only [List.map_toArray, List.map_cons, List.map_nil, ]; rfl) (fun w => by kernel_rfl) (fun v w' => ∃ zz, v = .tuple #[.agg #[.int .u64 0, zz], .int .i64 1] ∧ Cs w' zz (([] : List Ce))) (newC_f 1 4 (by decide) w1) (fun v w' hr hb => ⟨hS.trans (hb.mono hS.size), Flz.of hb, by obtain ⟨zz, a, b⟩ := hr; exact ⟨zz, (updF_self _ _ _).trans a, b⟩⟩)
    · intro f w1 hS hf
      generalize hA : putAll _ _ f = aA
      obtain ⟨x21, hx21, hr21⟩ := hf 0 (by decide)
      have e21 : aA.eval (.tmp 21) = .tuple #[.agg #[.int .u64 0, x21], .int .i64 1] := by rw [← hA]; exact putAll_at f 21 0 slotsKn3 a0 sbKn3 (by kernel_rfl) zsz rfl hx21
      exact flw_val rfl rfl (.tuple #[.agg #[.int .u64 0, x21], .int .i64 1]) (ex_move (.tmp 21) rfl e21) hS (Flz.refl _) ⟨x21, updF_self _ _ _, hr21⟩
    · intro f w1 hS hf
      generalize hA : putAll _ _ f = aA
      obtain ⟨x20, hx20, hr20⟩ := hf 1 (by decide)
      have e20 : aA.eval (.tmp 20) = .tuple #[.agg #[.int .u64 0, x20], .int .i64 1] := by rw [← hA]; exact putAll_at f 20 1 slotsKn3 a0 sbKn3 (by kernel_rfl) zsz rfl hx20
      exact flw_val rfl rfl (.agg #[.int .u64 0, x20]) (ex_extract (.tmp 20) 0 rfl e20 rfl) hS (Flz.refl _) ⟨x20, updF_self _ _ _, hr20⟩
    · intro f w1 hS hf
      generalize hA : putAll _ _ f = aA
      obtain ⟨x20, hx20, hr20⟩ := hf 1 (by decide)
      have e20 : aA.eval (.tmp 20) = .tuple #[.agg #[.int .u64 0, x20], .int .i64 1] := by rw [← hA]; exact putAll_at f 20 1 slotsKn3 a0 sbKn3 (by kernel_rfl) zsz rfl hx20
      exact flw_val rfl rfl (.int .i64 1) (ex_extract (.tmp 20) 1 rfl e20 rfl) hS (Flz.refl _) (updF_self _ _ _)
    · intro f w1 hS hf
      generalize hA : putAll _ _ f = aA
      exact flw_wp rfl rfl (fun K hK => wp_alloc_row 26 rfl (.agg #[.int .u64 0, .slice none 0 0]) (fun w => by kernel_rfl) (hK _ _ (hS.alloc hS.size _) (Flz.al _ _) ⟨_, updF_self _ _ _, hS.size, Has.made' _ _ _ _ rfl⟩))
  intro f x3 hS hf hap
  obtain ⟨v3_0, h0, -⟩ := hf 0 (by decide)
  obtain ⟨v3_1, h1, -⟩ := hf 1 (by decide)
  obtain ⟨v3_2, h2, hu2⟩ := hf 2 (by decide)
  have HU3_2 := Lib.hid hu2
  clear hu2
  have h3 : f 3 = .int .i64 1 := hf 3 (by decide)
  obtain ⟨b3_4, h4, hgb4, hhb4⟩ := hf 4 (by decide)
  clear hf hap
  clear zsz
  subst ha0
  simp only [slotsKn3, putAll, h0, h1, h2, h3, h4, Act.put, List.setIfInBounds_toArray, List.set_cons_zero, List.set_cons_succ]
  clear h0 h1 h2 h3 h4
  refine tl_store rfl (by kernel_rfl) 26 (.tmp 1) (.tmp 22) rfl b3_4 ([.int .u64 0, v3_2]) _ rfl rfl _ hhb4 (by kernel_rfl) rfl (tb_ones _ HU3_2.out.one) ?_
  intro u3 hp4 hbl hot
  replace hS := hS.trans (hbl _ hgb4)
  replace HU3_2 := Lib.hid (HU3_2.out.hotb hhb4 ⟨_, _, _, rfl⟩ (by decide) (hbl 0 (Nat.zero_le _)).size hot)
  clear hbl hot hhb4
  try simp only [Act.put]
  refine tl_pure rfl (by kernel_rfl) (.int .i64 1) (ex_assign (.tmp 23) rfl rfl) ?_
  try simp only [Act.put, List.setIfInBounds_toArray, List.set_cons_zero, List.set_cons_succ]
  refine tl_nil ?_
  have HBW := Lib.hid HB.out.size
  replace HB := Lib.hid (HB.out.trans (hS.mono HB.out.size))
  clear hS
  have HGb3_4 : Hid (w.heap.size ≤ b3_4) := Lib.hid (Nat.le_trans HBW.out hgb4)
  have HX_b3_4 : Hid (Has u3 b3_4 26 ([.int .u64 0, v3_2])) := Lib.hid hp4
  clear hp4 hgb4
  clear HBW
  go_upto_region 4 with fail
  refine wp_act (fun a0 ha0 => ?_)
  have zsz : a0.tmps.size = 126 := by rw [ha0]; rfl
  refine wp_region_flwo (E := Flz) [] slotsKn4 waitKn4 [Fct.obj 0 (fun v w => ∃ zz, v = .tuple #[.agg #[.int .u64 0, zz], .int .i64 1] ∧ Cs w zz (([] : List Ce))) (fun _ _ _ ⟨zz, a, b⟩ he => ⟨zz, a, b.flz he⟩), Fct.obj 1 (fun v w => ∃ zz, v = .tuple #[.agg #[.int .u64 0, zz], .int .i64 1] ∧ Cs w zz (([] : List Ce))) (fun _ _ _ ⟨zz, a, b⟩ he => ⟨zz, a, b.flz he⟩), Fct.obj 2 (fun v w => ∃ zz, v = .agg #[.int .u64 0, zz] ∧ Cs w zz (([] : List Ce))) (fun _ _ _ ⟨zz, a, b⟩ he => ⟨zz, a, b.flz he⟩), Fct.val Flz 3 (.int .i64 1), Fct.obj 4 (fun v w => ∃ g, v = .pointer (some ⟨g, 0, none⟩) ∧ u3.heap.size ≤ g ∧ Has w g 26 ([.int .u64 0, .slice none 0 0])) (fun _ _ _ ⟨g, a, b, c⟩ he => ⟨g, a, b, c.flz he (by decide)⟩)] (fun w' => Below u3.heap.size u3 w') _ 5 2 chkKn4 (by kernel_rfl) (by kernel_rfl) (by kernel_rfl) (by decide) (Below.refl _ _) ?_ ?_
  · refine lt_s (lt_s (lt_s (lt_s (lt_s (lt_0) ?_) ?_) ?_) ?_) ?_
    · intro f w1 hS hf
      generalize hA : putAll _ _ f = aA
      exact flw_call rfl rfl 9 #[_, _, _] _ rfl #[.int .u64 1, .int .i64 0, .slice none 0 0] (by simp only [List.map_toArray, List.map_cons, List.map_nil, ]; rfl) (fun w => by kernel_rfl) (fun v w' => ∃ zz, v = .tuple #[.agg #[.int .u64 0, zz], .int .i64 1] ∧ Cs w' zz (([] : List Ce))) (of_f 1 0 _ [] (by decide) w1 (by decide) (HL.out.keep (HB.out.trans (hS.mono HB.out.size)) HSZ.out) (by decide) (Us.nil w1)) (fun v w' hr hb => ⟨hS.trans (hb.mono hS.size), Flz.of hb, by obtain ⟨zz, a, b⟩ := hr; exact ⟨zz, (updF_self _ _ _).trans a, b⟩⟩)
    · intro f w1 hS hf
      generalize hA : putAll _ _ f = aA
      obtain ⟨x25, hx25, hr25⟩ := hf 0 (by decide)
      have e25 : aA.eval (.tmp 25) = .tuple #[.agg #[.int .u64 0, x25], .int .i64 1] := by rw [← hA]; exact putAll_at f 25 0 slotsKn4 a0 sbKn4 (by kernel_rfl) zsz rfl hx25
      exact flw_val rfl rfl (.tuple #[.agg #[.int .u64 0, x25], .int .i64 1]) (ex_move (.tmp 25) rfl e25) hS (Flz.refl _) ⟨x25, updF_self _ _ _, hr25⟩
    · intro f w1 hS hf
      generalize hA : putAll _ _ f = aA
      obtain ⟨x24, hx24, hr24⟩ := hf 1 (by decide)
      have e24 : aA.eval (.tmp 24) = .tuple #[.agg #[.int .u64 0, x24], .int .i64 1] := by rw [← hA]; exact putAll_at f 24 1 slotsKn4 a0 sbKn4 (by kernel_rfl) zsz rfl hx24
      exact flw_val rfl rfl (.agg #[.int .u64 0, x24]) (ex_extract (.tmp 24) 0 rfl e24 rfl) hS (Flz.refl _) ⟨x24, updF_self _ _ _, hr24⟩
    · intro f w1 hS hf
      generalize hA : putAll _ _ f = aA
      obtain ⟨x24, hx24, hr24⟩ := hf 1 (by decide)
      have e24 : aA.eval (.tmp 24) = .tuple #[.agg #[.int .u64 0, x24], .int .i64 1] := by rw [← hA]; exact putAll_at f 24 1 slotsKn4 a0 sbKn4 (by kernel_rfl) zsz rfl hx24
      exact flw_val rfl rfl (.int .i64 1) (ex_extract (.tmp 24) 1 rfl e24 rfl) hS (Flz.refl _) (updF_self _ _ _)
    · intro f w1 hS hf
      generalize hA : putAll _ _ f = aA
      exact flw_wp rfl rfl (fun K hK => wp_alloc_row 26 rfl (.agg #[.int .u64 0, .slice none 0 0]) (fun w => by kernel_rfl) (hK _ _ (hS.alloc hS.size _) (Flz.al _ _) ⟨_, updF_self _ _ _, hS.size, Has.made' _ _ _ _ rfl⟩))
  intro f x4 hS hf hap
  obtain ⟨v4_0, h0, -⟩ := hf 0 (by decide)
  obtain ⟨v4_1, h1, -⟩ := hf 1 (by decide)
  obtain ⟨v4_2, h2, hu2⟩ := hf 2 (by decide)
  have HU4_2 := Lib.hid hu2
  clear hu2
  have h3 : f 3 = .int .i64 1 := hf 3 (by decide)
  obtain ⟨b4_4, h4, hgb4, hhb4⟩ := hf 4 (by decide)
  clear hf hap
  clear zsz
  subst ha0
  simp only [slotsKn4, putAll, h0, h1, h2, h3, h4, Act.put, List.setIfInBounds_toArray, List.set_cons_zero, List.set_cons_succ]
  clear h0 h1 h2 h3 h4
  refine tl_store rfl (by kernel_rfl) 26 (.tmp 3) (.tmp 26) rfl b4_4 ([.int .u64 0, v4_2]) _ rfl rfl _ hhb4 (by kernel_rfl) rfl (tb_ones _ HU4_2.out.one) ?_
  intro u4 hp4 hbl hot
  replace hS := hS.trans (hbl _ hgb4)
  replace HU4_2 := Lib.hid (HU4_2.out.hotb hhb4 ⟨_, _, _, rfl⟩ (by decide) (hbl 0 (Nat.zero_le _)).size hot)
  clear hbl hot hhb4
  try simp only [Act.put]
  refine tl_pure rfl (by kernel_rfl) (.int .i64 1) (ex_assign (.tmp 27) rfl rfl) ?_
  try simp only [Act.put, List.setIfInBounds_toArray, List.set_cons_zero, List.set_cons_succ]
  refine tl_nil ?_
  replace HX_b3_4 := Lib.hid (HX_b3_4.out.keepB hS)
  replace HU3_2 := Lib.hid (HU3_2.out.keep hS)
  have HBW := Lib.hid HB.out.size
  replace HB := Lib.hid (HB.out.trans (hS.mono HB.out.size))
  clear hS
  have HGb4_4 : Hid (w.heap.size ≤ b4_4) := Lib.hid (Nat.le_trans HBW.out hgb4)
  have HX_b4_4 : Hid (Has u4 b4_4 26 ([.int .u64 0, v4_2])) := Lib.hid hp4
  clear hp4 hgb4
  clear HBW
  go_upto_region 5 with fail
  refine wp_act (fun a0 ha0 => ?_)
  have zsz : a0.tmps.size = 126 := by rw [ha0]; rfl
  refine wp_region_flwo (E := Flz) [] slotsKn5 waitKn5 [Fct.obj 0 (fun v w => ∃ zz, v = .tuple #[.agg #[.int .u64 1, zz], .int .i64 0] ∧ Cs w zz (Z12)) (fun _ _ _ ⟨zz, a, b⟩ he => ⟨zz, a, b.flz he⟩), Fct.obj 1 (fun v w => ∃ zz, v = .tuple #[.agg #[.int .u64 1, zz], .int .i64 0] ∧ Cs w zz (Z12)) (fun _ _ _ ⟨zz, a, b⟩ he => ⟨zz, a, b.flz he⟩), Fct.obj 2 (fun v w => ∃ zz, v = .agg #[.int .u64 1, zz] ∧ Cs w zz (Z12)) (fun _ _ _ ⟨zz, a, b⟩ he => ⟨zz, a, b.flz he⟩), Fct.val Flz 3 (.int .i64 0), Fct.obj 4 (fun v w => ∃ g, v = .pointer (some ⟨g, 0, none⟩) ∧ u4.heap.size ≤ g ∧ Has w g 26 ([.int .u64 0, .slice none 0 0])) (fun _ _ _ ⟨g, a, b, c⟩ he => ⟨g, a, b, c.flz he (by decide)⟩)] (fun w' => Below u4.heap.size u4 w') _ 5 2 chkKn5 (by kernel_rfl) (by kernel_rfl) (by kernel_rfl) (by decide) (Below.refl _ _) ?_ ?_
  · refine lt_s (lt_s (lt_s (lt_s (lt_s (lt_0) ?_) ?_) ?_) ?_) ?_
    · intro f w1 hS hf
      generalize hA : putAll _ _ f = aA
      exact flw_call rfl rfl 8 #[_, _] _ rfl #[.int .u64 1, .int .i64 12] (by simp only [List.map_toArray, List.map_cons, List.map_nil, ]; rfl) (fun w => by kernel_rfl) (fun v w' => ∃ zz, v = .tuple #[.agg #[.int .u64 1, zz], .int .i64 0] ∧ Cs w' zz (Z12)) (newC_t 1 12 12 (by decide) rfl w1) (fun v w' hr hb => ⟨hS.trans (hb.mono hS.size), Flz.of hb, by obtain ⟨zz, a, b⟩ := hr; exact ⟨zz, (updF_self _ _ _).trans a, b⟩⟩)
    · intro f w1 hS hf
      generalize hA : putAll _ _ f = aA
      obtain ⟨x29, hx29, hr29⟩ := hf 0 (by decide)
      have e29 : aA.eval (.tmp 29) = .tuple #[.agg #[.int .u64 1, x29], .int .i64 0] := by rw [← hA]; exact putAll_at f 29 0 slotsKn5 a0 sbKn5 (by kernel_rfl) zsz rfl hx29
      exact flw_val rfl rfl (.tuple #[.agg #[.int .u64 1, x29], .int .i64 0]) (ex_move (.tmp 29) rfl e29) hS (Flz.refl _) ⟨x29, updF_self _ _ _, hr29⟩
    · intro f w1 hS hf
      generalize hA : putAll _ _ f = aA
      obtain ⟨x28, hx28, hr28⟩ := hf 1 (by decide)
      have e28 : aA.eval (.tmp 28) = .tuple #[.agg #[.int .u64 1, x28], .int .i64 0] := by rw [← hA]; exact putAll_at f 28 1 slotsKn5 a0 sbKn5 (by kernel_rfl) zsz rfl hx28
      exact flw_val rfl rfl (.agg #[.int .u64 1, x28]) (ex_extract (.tmp 28) 0 rfl e28 rfl) hS (Flz.refl _) ⟨x28, updF_self _ _ _, hr28⟩
    · intro f w1 hS hf
      generalize hA : putAll _ _ f = aA
      obtain ⟨x28, hx28, hr28⟩ := hf 1 (by decide)
      have e28 : aA.eval (.tmp 28) = .tuple #[.agg #[.int .u64 1, x28], .int .i64 0] := by rw [← hA]; exact putAll_at f 28 1 slotsKn5 a0 sbKn5 (by kernel_rfl) zsz rfl hx28
      exact flw_val rfl rfl (.int .i64 0) (ex_extract (.tmp 28) 1 rfl e28 rfl) hS (Flz.refl _) (updF_self _ _ _)
    · intro f w1 hS hf
      generalize hA : putAll _ _ f = aA
      exact flw_wp rfl rfl (fun K hK => wp_alloc_row 26 rfl (.agg #[.int .u64 0, .slice none 0 0]) (fun w => by kernel_rfl) (hK _ _ (hS.alloc hS.size _) (Flz.al _ _) ⟨_, updF_self _ _ _, hS.size, Has.made' _ _ _ _ rfl⟩))
  intro f x5 hS hf hap
  obtain ⟨v5_0, h0, -⟩ := hf 0 (by decide)
  obtain ⟨v5_1, h1, -⟩ := hf 1 (by decide)
  obtain ⟨v5_2, h2, hu2⟩ := hf 2 (by decide)
  have HU5_2 := Lib.hid hu2
  clear hu2
  have h3 : f 3 = .int .i64 0 := hf 3 (by decide)
  obtain ⟨b5_4, h4, hgb4, hhb4⟩ := hf 4 (by decide)
  clear hf hap
  clear zsz
  subst ha0
  simp only [slotsKn5, putAll, h0, h1, h2, h3, h4, Act.put, List.setIfInBounds_toArray, List.set_cons_zero, List.set_cons_succ]
  clear h0 h1 h2 h3 h4
  refine tl_store rfl (by kernel_rfl) 26 (.tmp 5) (.tmp 30) rfl b5_4 ([.int .u64 1, v5_2]) _ rfl rfl _ hhb4 (by kernel_rfl) rfl (tb_ones _ HU5_2.out.one) ?_
  intro u5 hp4 hbl hot
  replace hS := hS.trans (hbl _ hgb4)
  replace HU5_2 := Lib.hid (HU5_2.out.hotb hhb4 ⟨_, _, _, rfl⟩ (by decide) (hbl 0 (Nat.zero_le _)).size hot)
  clear hbl hot hhb4
  try simp only [Act.put]
  refine tl_pure rfl (by kernel_rfl) (.int .i64 0) (ex_assign (.tmp 31) rfl rfl) ?_
  try simp only [Act.put, List.setIfInBounds_toArray, List.set_cons_zero, List.set_cons_succ]
  refine tl_nil ?_
  replace HX_b3_4 := Lib.hid (HX_b3_4.out.keepB hS)
  replace HU3_2 := Lib.hid (HU3_2.out.keep hS)
  replace HX_b4_4 := Lib.hid (HX_b4_4.out.keepB hS)
  replace HU4_2 := Lib.hid (HU4_2.out.keep hS)
  have HBW := Lib.hid HB.out.size
  replace HB := Lib.hid (HB.out.trans (hS.mono HB.out.size))
  clear hS
  have HGb5_4 : Hid (w.heap.size ≤ b5_4) := Lib.hid (Nat.le_trans HBW.out hgb4)
  have HX_b5_4 : Hid (Has u5 b5_4 26 ([.int .u64 1, v5_2])) := Lib.hid hp4
  clear hp4 hgb4
  clear HBW
  go_upto_region 6 with fail
  refine wp_act (fun a0 ha0 => ?_)
  have zsz : a0.tmps.size = 126 := by rw [ha0]; rfl
  refine wp_region_flwo (E := Flz) [] slotsKn6 waitKn6 [Fct.obj 0 (fun v w => ∃ zz, v = .tuple #[.agg #[.int .u64 2, zz], .int .i64 0] ∧ Cs w zz (Z12)) (fun _ _ _ ⟨zz, a, b⟩ he => ⟨zz, a, b.flz he⟩), Fct.obj 1 (fun v w => ∃ zz, v = .tuple #[.agg #[.int .u64 2, zz], .int .i64 0] ∧ Cs w zz (Z12)) (fun _ _ _ ⟨zz, a, b⟩ he => ⟨zz, a, b.flz he⟩), Fct.obj 2 (fun v w => ∃ zz, v = .agg #[.int .u64 2, zz] ∧ Cs w zz (Z12)) (fun _ _ _ ⟨zz, a, b⟩ he => ⟨zz, a, b.flz he⟩), Fct.val Flz 3 (.int .i64 0), Fct.obj 4 (fun v w => ∃ g, v = .pointer (some ⟨g, 0, none⟩) ∧ u5.heap.size ≤ g ∧ Has w g 26 ([.int .u64 0, .slice none 0 0])) (fun _ _ _ ⟨g, a, b, c⟩ he => ⟨g, a, b, c.flz he (by decide)⟩)] (fun w' => Below u5.heap.size u5 w') _ 5 2 chkKn6 (by kernel_rfl) (by kernel_rfl) (by kernel_rfl) (by decide) (Below.refl _ _) ?_ ?_
  · refine lt_s (lt_s (lt_s (lt_s (lt_s (lt_0) ?_) ?_) ?_) ?_) ?_
    · intro f w1 hS hf
      generalize hA : putAll _ _ f = aA
      exact flw_call rfl rfl 8 #[_, _] _ rfl #[.int .u64 2, .int .i64 12] (by simp only [List.map_toArray, List.map_cons, List.map_nil, ]; rfl) (fun w => by kernel_rfl) (fun v w' => ∃ zz, v = .tuple #[.agg #[.int .u64 2, zz], .int .i64 0] ∧ Cs w' zz (Z12)) (newC_t 2 12 12 (by decide) rfl w1) (fun v w' hr hb => ⟨hS.trans (hb.mono hS.size), Flz.of hb, by obtain ⟨zz, a, b⟩ := hr; exact ⟨zz, (updF_self _ _ _).trans a, b⟩⟩)
    · intro f w1 hS hf
      generalize hA : putAll _ _ f = aA
      obtain ⟨x33, hx33, hr33⟩ := hf 0 (by decide)
      have e33 : aA.eval (.tmp 33) = .tuple #[.agg #[.int .u64 2, x33], .int .i64 0] := by rw [← hA]; exact putAll_at f 33 0 slotsKn6 a0 sbKn6 (by kernel_rfl) zsz rfl hx33
      exact flw_val rfl rfl (.tuple #[.agg #[.int .u64 2, x33], .int .i64 0]) (ex_move (.tmp 33) rfl e33) hS (Flz.refl _) ⟨x33, updF_self _ _ _, hr33⟩
    · intro f w1 hS hf
      generalize hA : putAll _ _ f = aA
      obtain ⟨x32, hx32, hr32⟩ := hf 1 (by decide)
      have e32 : aA.eval (.tmp 32) = .tuple #[.agg #[.int .u64 2, x32], .int .i64 0] := by rw [← hA]; exact putAll_at f 32 1 slotsKn6 a0 sbKn6 (by kernel_rfl) zsz rfl hx32
      exact flw_val rfl rfl (.agg #[.int .u64 2, x32]) (ex_extract (.tmp 32) 0 rfl e32 rfl) hS (Flz.refl _) ⟨x32, updF_self _ _ _, hr32⟩
    · intro f w1 hS hf
      generalize hA : putAll _ _ f = aA
      obtain ⟨x32, hx32, hr32⟩ := hf 1 (by decide)
      have e32 : aA.eval (.tmp 32) = .tuple #[.agg #[.int .u64 2, x32], .int .i64 0] := by rw [← hA]; exact putAll_at f 32 1 slotsKn6 a0 sbKn6 (by kernel_rfl) zsz rfl hx32
      exact flw_val rfl rfl (.int .i64 0) (ex_extract (.tmp 32) 1 rfl e32 rfl) hS (Flz.refl _) (updF_self _ _ _)
    · intro f w1 hS hf
      generalize hA : putAll _ _ f = aA
      exact flw_wp rfl rfl (fun K hK => wp_alloc_row 26 rfl (.agg #[.int .u64 0, .slice none 0 0]) (fun w => by kernel_rfl) (hK _ _ (hS.alloc hS.size _) (Flz.al _ _) ⟨_, updF_self _ _ _, hS.size, Has.made' _ _ _ _ rfl⟩))
  intro f x6 hS hf hap
  obtain ⟨v6_0, h0, -⟩ := hf 0 (by decide)
  obtain ⟨v6_1, h1, -⟩ := hf 1 (by decide)
  obtain ⟨v6_2, h2, hu2⟩ := hf 2 (by decide)
  have HU6_2 := Lib.hid hu2
  clear hu2
  have h3 : f 3 = .int .i64 0 := hf 3 (by decide)
  obtain ⟨b6_4, h4, hgb4, hhb4⟩ := hf 4 (by decide)
  clear hf hap
  clear zsz
  subst ha0
  simp only [slotsKn6, putAll, h0, h1, h2, h3, h4, Act.put, List.setIfInBounds_toArray, List.set_cons_zero, List.set_cons_succ]
  clear h0 h1 h2 h3 h4
  refine tl_store rfl (by kernel_rfl) 26 (.tmp 7) (.tmp 34) rfl b6_4 ([.int .u64 2, v6_2]) _ rfl rfl _ hhb4 (by kernel_rfl) rfl (tb_ones _ HU6_2.out.one) ?_
  intro u6 hp4 hbl hot
  replace hS := hS.trans (hbl _ hgb4)
  replace HU6_2 := Lib.hid (HU6_2.out.hotb hhb4 ⟨_, _, _, rfl⟩ (by decide) (hbl 0 (Nat.zero_le _)).size hot)
  clear hbl hot hhb4
  try simp only [Act.put]
  refine tl_pure rfl (by kernel_rfl) (.int .i64 0) (ex_assign (.tmp 35) rfl rfl) ?_
  try simp only [Act.put, List.setIfInBounds_toArray, List.set_cons_zero, List.set_cons_succ]
  refine tl_nil ?_
  replace HX_b3_4 := Lib.hid (HX_b3_4.out.keepB hS)
  replace HU3_2 := Lib.hid (HU3_2.out.keep hS)
  replace HX_b4_4 := Lib.hid (HX_b4_4.out.keepB hS)
  replace HU4_2 := Lib.hid (HU4_2.out.keep hS)
  replace HX_b5_4 := Lib.hid (HX_b5_4.out.keepB hS)
  replace HU5_2 := Lib.hid (HU5_2.out.keep hS)
  have HBW := Lib.hid HB.out.size
  replace HB := Lib.hid (HB.out.trans (hS.mono HB.out.size))
  clear hS
  have HGb6_4 : Hid (w.heap.size ≤ b6_4) := Lib.hid (Nat.le_trans HBW.out hgb4)
  have HX_b6_4 : Hid (Has u6 b6_4 26 ([.int .u64 2, v6_2])) := Lib.hid hp4
  clear hp4 hgb4
  clear HBW
  go_upto_region 7 with fail
  refine wp_act (fun a0 ha0 => ?_)
  have zsz : a0.tmps.size = 126 := by rw [ha0]; rfl
  refine wp_region_flwo (E := Flz) [] slotsKn7 waitKn7 [Fct.obj 0 (fun v w => ∃ zz, v = .tuple #[.agg #[.int .u64 1, zz], .int .i64 0] ∧ Cs w zz (Z15)) (fun _ _ _ ⟨zz, a, b⟩ he => ⟨zz, a, b.flz he⟩), Fct.obj 1 (fun v w => ∃ zz, v = .tuple #[.agg #[.int .u64 1, zz], .int .i64 0] ∧ Cs w zz (Z15)) (fun _ _ _ ⟨zz, a, b⟩ he => ⟨zz, a, b.flz he⟩), Fct.obj 2 (fun v w => ∃ zz, v = .agg #[.int .u64 1, zz] ∧ Cs w zz (Z15)) (fun _ _ _ ⟨zz, a, b⟩ he => ⟨zz, a, b.flz he⟩), Fct.val Flz 3 (.int .i64 0), Fct.obj 4 (fun v w => ∃ g, v = .pointer (some ⟨g, 0, none⟩) ∧ u6.heap.size ≤ g ∧ Has w g 26 ([.int .u64 0, .slice none 0 0])) (fun _ _ _ ⟨g, a, b, c⟩ he => ⟨g, a, b, c.flz he (by decide)⟩)] (fun w' => Below u6.heap.size u6 w') _ 5 2 chkKn7 (by kernel_rfl) (by kernel_rfl) (by kernel_rfl) (by decide) (Below.refl _ _) ?_ ?_
  · refine lt_s (lt_s (lt_s (lt_s (lt_s (lt_0) ?_) ?_) ?_) ?_) ?_
    · intro f w1 hS hf
      generalize hA : putAll _ _ f = aA
      exact flw_call rfl rfl 8 #[_, _] _ rfl #[.int .u64 1, .int .i64 15] (by simp only [List.map_toArray, List.map_cons, List.map_nil, ]; rfl) (fun w => by kernel_rfl) (fun v w' => ∃ zz, v = .tuple #[.agg #[.int .u64 1, zz], .int .i64 0] ∧ Cs w' zz (Z15)) (newC_t 1 15 15 (by decide) rfl w1) (fun v w' hr hb => ⟨hS.trans (hb.mono hS.size), Flz.of hb, by obtain ⟨zz, a, b⟩ := hr; exact ⟨zz, (updF_self _ _ _).trans a, b⟩⟩)
    · intro f w1 hS hf
      generalize hA : putAll _ _ f = aA
      obtain ⟨x37, hx37, hr37⟩ := hf 0 (by decide)
      have e37 : aA.eval (.tmp 37) = .tuple #[.agg #[.int .u64 1, x37], .int .i64 0] := by rw [← hA]; exact putAll_at f 37 0 slotsKn7 a0 sbKn7 (by kernel_rfl) zsz rfl hx37
      exact flw_val rfl rfl (.tuple #[.agg #[.int .u64 1, x37], .int .i64 0]) (ex_move (.tmp 37) rfl e37) hS (Flz.refl _) ⟨x37, updF_self _ _ _, hr37⟩
    · intro f w1 hS hf
      generalize hA : putAll _ _ f = aA
      obtain ⟨x36, hx36, hr36⟩ := hf 1 (by decide)
      have e36 : aA.eval (.tmp 36) = .tuple #[.agg #[.int .u64 1, x36], .int .i64 0] := by rw [← hA]; exact putAll_at f 36 1 slotsKn7 a0 sbKn7 (by kernel_rfl) zsz rfl hx36
      exact flw_val rfl rfl (.agg #[.int .u64 1, x36]) (ex_extract (.tmp 36) 0 rfl e36 rfl) hS (Flz.refl _) ⟨x36, updF_self _ _ _, hr36⟩
    · intro f w1 hS hf
      generalize hA : putAll _ _ f = aA
      obtain ⟨x36, hx36, hr36⟩ := hf 1 (by decide)
      have e36 : aA.eval (.tmp 36) = .tuple #[.agg #[.int .u64 1, x36], .int .i64 0] := by rw [← hA]; exact putAll_at f 36 1 slotsKn7 a0 sbKn7 (by kernel_rfl) zsz rfl hx36
      exact flw_val rfl rfl (.int .i64 0) (ex_extract (.tmp 36) 1 rfl e36 rfl) hS (Flz.refl _) (updF_self _ _ _)
    · intro f w1 hS hf
      generalize hA : putAll _ _ f = aA
      exact flw_wp rfl rfl (fun K hK => wp_alloc_row 26 rfl (.agg #[.int .u64 0, .slice none 0 0]) (fun w => by kernel_rfl) (hK _ _ (hS.alloc hS.size _) (Flz.al _ _) ⟨_, updF_self _ _ _, hS.size, Has.made' _ _ _ _ rfl⟩))
  intro f x7 hS hf hap
  obtain ⟨v7_0, h0, -⟩ := hf 0 (by decide)
  obtain ⟨v7_1, h1, -⟩ := hf 1 (by decide)
  obtain ⟨v7_2, h2, hu2⟩ := hf 2 (by decide)
  have HU7_2 := Lib.hid hu2
  clear hu2
  have h3 : f 3 = .int .i64 0 := hf 3 (by decide)
  obtain ⟨b7_4, h4, hgb4, hhb4⟩ := hf 4 (by decide)
  clear hf hap
  clear zsz
  subst ha0
  simp only [slotsKn7, putAll, h0, h1, h2, h3, h4, Act.put, List.setIfInBounds_toArray, List.set_cons_zero, List.set_cons_succ]
  clear h0 h1 h2 h3 h4
  refine tl_store rfl (by kernel_rfl) 26 (.tmp 9) (.tmp 38) rfl b7_4 ([.int .u64 1, v7_2]) _ rfl rfl _ hhb4 (by kernel_rfl) rfl (tb_ones _ HU7_2.out.one) ?_
  intro u7 hp4 hbl hot
  replace hS := hS.trans (hbl _ hgb4)
  replace HU7_2 := Lib.hid (HU7_2.out.hotb hhb4 ⟨_, _, _, rfl⟩ (by decide) (hbl 0 (Nat.zero_le _)).size hot)
  clear hbl hot hhb4
  try simp only [Act.put]
  refine tl_pure rfl (by kernel_rfl) (.int .i64 0) (ex_assign (.tmp 39) rfl rfl) ?_
  try simp only [Act.put, List.setIfInBounds_toArray, List.set_cons_zero, List.set_cons_succ]
  refine tl_nil ?_
  replace HX_b3_4 := Lib.hid (HX_b3_4.out.keepB hS)
  replace HU3_2 := Lib.hid (HU3_2.out.keep hS)
  replace HX_b4_4 := Lib.hid (HX_b4_4.out.keepB hS)
  replace HU4_2 := Lib.hid (HU4_2.out.keep hS)
  replace HX_b5_4 := Lib.hid (HX_b5_4.out.keepB hS)
  replace HU5_2 := Lib.hid (HU5_2.out.keep hS)
  replace HX_b6_4 := Lib.hid (HX_b6_4.out.keepB hS)
  replace HU6_2 := Lib.hid (HU6_2.out.keep hS)
  have HBW := Lib.hid HB.out.size
  replace HB := Lib.hid (HB.out.trans (hS.mono HB.out.size))
  clear hS
  have HGb7_4 : Hid (w.heap.size ≤ b7_4) := Lib.hid (Nat.le_trans HBW.out hgb4)
  have HX_b7_4 : Hid (Has u7 b7_4 26 ([.int .u64 1, v7_2])) := Lib.hid hp4
  clear hp4 hgb4
  clear HBW
  go_upto_region 8 with fail
  refine wp_act (fun a0 ha0 => ?_)
  have zsz : a0.tmps.size = 126 := by rw [ha0]; rfl
  have z5 : a0.eval (.tmp 5) = .pointer (some ⟨b5_4, 0, none⟩) := by rw [ha0]; rfl
  have z7 : a0.eval (.tmp 7) = .pointer (some ⟨b6_4, 0, none⟩) := by rw [ha0]; rfl
  refine wp_region_flwo (E := Flz) [] slotsKn8 waitKn8 [Fct.val Flz 0 (.agg #[.int .u64 1, v5_2]), Fct.val Flz 1 (.agg #[.int .u64 2, v6_2]), Fct.obj 2 (fun v w => ∃ zz, v = .tuple #[.agg #[.int .u64 0, zz], .int .i64 1] ∧ Cs w zz (([] : List Ce))) (fun _ _ _ ⟨zz, a, b⟩ he => ⟨zz, a, b.flz he⟩), Fct.obj 3 (fun v w => ∃ zz, v = .tuple #[.agg #[.int .u64 0, zz], .int .i64 1] ∧ Cs w zz (([] : List Ce))) (fun _ _ _ ⟨zz, a, b⟩ he => ⟨zz, a, b.flz he⟩), Fct.obj 4 (fun v w => ∃ zz, v = .agg #[.int .u64 0, zz] ∧ Cs w zz (([] : List Ce))) (fun _ _ _ ⟨zz, a, b⟩ he => ⟨zz, a, b.flz he⟩), Fct.val Flz 5 (.int .i64 1), Fct.obj 6 (fun v w => ∃ g, v = .pointer (some ⟨g, 0, none⟩) ∧ u7.heap.size ≤ g ∧ Has w g 26 ([.int .u64 0, .slice none 0 0])) (fun _ _ _ ⟨g, a, b, c⟩ he => ⟨g, a, b, c.flz he (by decide)⟩)] (fun w' => Below u7.heap.size u7 w') _ 7 2 chkKn8 (by kernel_rfl) (by kernel_rfl) (by kernel_rfl) (by decide) (Below.refl _ _) ?_ ?_
  · refine lt_s (lt_s (lt_s (lt_s (lt_s (lt_s (lt_s (lt_0) ?_) ?_) ?_) ?_) ?_) ?_) ?_
    · intro f w1 hS hf
      generalize hA : putAll _ _ f = aA
      have r5 : aA.eval (.tmp 5) = .pointer (some ⟨b5_4, 0, none⟩) := by rw [← hA]; exact putAll_off f 5 slotsKn8 a0 (by kernel_rfl) z5
      exact flw_val rfl rfl (.agg #[.int .u64 1, v5_2]) (ex_loadR 26 (.tmp 5) rfl ⟨b5_4, 0, none⟩ r5 (fun _ => by kernel_rfl) [.int .u64 1, v5_2] (by kernel_rfl) ((HX_b5_4.out.keepB hS).part [.int .u64 1, v5_2] 0 (fun j u hu => by rw [Nat.zero_add]; exact hu))) hS (Flz.refl _) (updF_self _ _ _)
    · intro f w1 hS hf
      generalize hA : putAll _ _ f = aA
      have r7 : aA.eval (.tmp 7) = .pointer (some ⟨b6_4, 0, none⟩) := by rw [← hA]; exact putAll_off f 7 slotsKn8 a0 (by kernel_rfl) z7
      exact flw_val rfl rfl (.agg #[.int .u64 2, v6_2]) (ex_loadR 26 (.tmp 7) rfl ⟨b6_4, 0, none⟩ r7 (fun _ => by kernel_rfl) [.int .u64 2, v6_2] (by kernel_rfl) ((HX_b6_4.out.keepB hS).part [.int .u64 2, v6_2] 0 (fun j u hu => by rw [Nat.zero_add]; exact hu))) hS (Flz.refl _) (updF_self _ _ _)
    · intro f w1 hS hf
      generalize hA : putAll _ _ f = aA
      have h41 : f 0 = .agg #[.int .u64 1, v5_2] := hf 0 (by decide)
      have r41 : aA.eval (.tmp 41) = .agg #[.int .u64 1, v5_2] := by rw [← hA]; exact putAll_at f 41 0 slotsKn8 a0 sbKn8 (by kernel_rfl) zsz rfl h41
      have h42 : f 1 = .agg #[.int .u64 2, v6_2] := hf 1 (by decide)
      have r42 : aA.eval (.tmp 42) = .agg #[.int .u64 2, v6_2] := by rw [← hA]; exact putAll_at f 42 1 slotsKn8 a0 sbKn8 (by kernel_rfl) zsz rfl h42
      exact flw_call rfl rfl 10 #[(.tmp 41), (.tmp 42)] _ rfl #[.agg #[.int .u64 1, v5_2], .agg #[.int .u64 2, v6_2]] (by simp only [List.map_toArray, List.map_cons, List.map_nil, r41, r42]) (fun w => by kernel_rfl) (fun v w' => ∃ zz, v = .tuple #[.agg #[.int .u64 0, zz], .int .i64 1] ∧ Cs w' zz (([] : List Ce))) (minusT_f 1 _ _ 2 _ _ (okM_seed (by decide)) w1 (by decide) (HU5_2.out.keep hS) (HU6_2.out.keep hS)) (fun v w' hr hb => ⟨hS.trans (hb.mono hS.size), Flz.of hb, by obtain ⟨zz, a, b⟩ := hr; exact ⟨zz, (updF_self _ _ _).trans a, b⟩⟩)
    · intro f w1 hS hf
      generalize hA : putAll _ _ f = aA
      obtain ⟨x43, hx43, hr43⟩ := hf 2 (by decide)
      have e43 : aA.eval (.tmp 43) = .tuple #[.agg #[.int .u64 0, x43], .int .i64 1] := by rw [← hA]; exact putAll_at f 43 2 slotsKn8 a0 sbKn8 (by kernel_rfl) zsz rfl hx43
      exact flw_val rfl rfl (.tuple #[.agg #[.int .u64 0, x43], .int .i64 1]) (ex_move (.tmp 43) rfl e43) hS (Flz.refl _) ⟨x43, updF_self _ _ _, hr43⟩
    · intro f w1 hS hf
      generalize hA : putAll _ _ f = aA
      obtain ⟨x40, hx40, hr40⟩ := hf 3 (by decide)
      have e40 : aA.eval (.tmp 40) = .tuple #[.agg #[.int .u64 0, x40], .int .i64 1] := by rw [← hA]; exact putAll_at f 40 3 slotsKn8 a0 sbKn8 (by kernel_rfl) zsz rfl hx40
      exact flw_val rfl rfl (.agg #[.int .u64 0, x40]) (ex_extract (.tmp 40) 0 rfl e40 rfl) hS (Flz.refl _) ⟨x40, updF_self _ _ _, hr40⟩
    · intro f w1 hS hf
      generalize hA : putAll _ _ f = aA
      obtain ⟨x40, hx40, hr40⟩ := hf 3 (by decide)
      have e40 : aA.eval (.tmp 40) = .tuple #[.agg #[.int .u64 0, x40], .int .i64 1] := by rw [← hA]; exact putAll_at f 40 3 slotsKn8 a0 sbKn8 (by kernel_rfl) zsz rfl hx40
      exact flw_val rfl rfl (.int .i64 1) (ex_extract (.tmp 40) 1 rfl e40 rfl) hS (Flz.refl _) (updF_self _ _ _)
    · intro f w1 hS hf
      generalize hA : putAll _ _ f = aA
      exact flw_wp rfl rfl (fun K hK => wp_alloc_row 26 rfl (.agg #[.int .u64 0, .slice none 0 0]) (fun w => by kernel_rfl) (hK _ _ (hS.alloc hS.size _) (Flz.al _ _) ⟨_, updF_self _ _ _, hS.size, Has.made' _ _ _ _ rfl⟩))
  intro f x8 hS hf hap
  have h0 : f 0 = .agg #[.int .u64 1, v5_2] := hf 0 (by decide)
  have h1 : f 1 = .agg #[.int .u64 2, v6_2] := hf 1 (by decide)
  obtain ⟨v8_2, h2, -⟩ := hf 2 (by decide)
  obtain ⟨v8_3, h3, -⟩ := hf 3 (by decide)
  obtain ⟨v8_4, h4, hu4⟩ := hf 4 (by decide)
  have HU8_4 := Lib.hid hu4
  clear hu4
  have h5 : f 5 = .int .i64 1 := hf 5 (by decide)
  obtain ⟨b8_6, h6, hgb6, hhb6⟩ := hf 6 (by decide)
  clear hf hap
  clear zsz z5 z7
  subst ha0
  simp only [slotsKn8, putAll, h0, h1, h2, h3, h4, h5, h6, Act.put, List.setIfInBounds_toArray, List.set_cons_zero, List.set_cons_succ]
  clear h0 h1 h2 h3 h4 h5 h6
  refine tl_store rfl (by kernel_rfl) 26 (.tmp 11) (.tmp 44) rfl b8_6 ([.int .u64 0, v8_4]) _ rfl rfl _ hhb6 (by kernel_rfl) rfl (tb_ones _ HU8_4.out.one) ?_
  intro u8 hp6 hbl hot
  replace hS := hS.trans (hbl _ hgb6)
  replace HU8_4 := Lib.hid (HU8_4.out.hotb hhb6 ⟨_, _, _, rfl⟩ (by decide) (hbl 0 (Nat.zero_le _)).size hot)
  clear hbl hot hhb6
  try simp only [Act.put]
  refine tl_pure rfl (by kernel_rfl) (.int .i64 1) (ex_assign (.tmp 45) rfl rfl) ?_
  try simp only [Act.put, List.setIfInBounds_toArray, List.set_cons_zero, List.set_cons_succ]
  refine tl_nil ?_
  replace HX_b3_4 := Lib.hid (HX_b3_4.out.keepB hS)
  replace HU3_2 := Lib.hid (HU3_2.out.keep hS)
  replace HX_b4_4 := Lib.hid (HX_b4_4.out.keepB hS)
  replace HU4_2 := Lib.hid (HU4_2.out.keep hS)
  replace HX_b5_4 := Lib.hid (HX_b5_4.out.keepB hS)
  replace HU5_2 := Lib.hid (HU5_2.out.keep hS)
  replace HX_b6_4 := Lib.hid (HX_b6_4.out.keepB hS)
  replace HU6_2 := Lib.hid (HU6_2.out.keep hS)
  replace HX_b7_4 := Lib.hid (HX_b7_4.out.keepB hS)
  replace HU7_2 := Lib.hid (HU7_2.out.keep hS)
  have HBW := Lib.hid HB.out.size
  replace HB := Lib.hid (HB.out.trans (hS.mono HB.out.size))
  clear hS
  have HGb8_6 : Hid (w.heap.size ≤ b8_6) := Lib.hid (Nat.le_trans HBW.out hgb6)
  have HX_b8_6 : Hid (Has u8 b8_6 26 ([.int .u64 0, v8_4])) := Lib.hid hp6
  clear hp6 hgb6
  clear HBW
  go_upto_region 9 with fail
  refine wp_act (fun a0 ha0 => ?_)
  have zsz : a0.tmps.size = 126 := by rw [ha0]; rfl
  have z5 : a0.eval (.tmp 5) = .pointer (some ⟨b5_4, 0, none⟩) := by rw [ha0]; rfl
  have z9 : a0.eval (.tmp 9) = .pointer (some ⟨b7_4, 0, none⟩) := by rw [ha0]; rfl
  refine wp_region_flwo (E := Flz) [] slotsKn9 waitKn9 [Fct.val Flz 0 (.agg #[.int .u64 1, v5_2]), Fct.val Flz 1 (.agg #[.int .u64 1, v7_2]), Fct.obj 2 (fun v w => ∃ zz, v = .tuple #[.agg #[.int .u64 0, zz], .int .i64 1] ∧ Cs w zz (([] : List Ce))) (fun _ _ _ ⟨zz, a, b⟩ he => ⟨zz, a, b.flz he⟩), Fct.obj 3 (fun v w => ∃ zz, v = .tuple #[.agg #[.int .u64 0, zz], .int .i64 1] ∧ Cs w zz (([] : List Ce))) (fun _ _ _ ⟨zz, a, b⟩ he => ⟨zz, a, b.flz he⟩), Fct.obj 4 (fun v w => ∃ zz, v = .agg #[.int .u64 0, zz] ∧ Cs w zz (([] : List Ce))) (fun _ _ _ ⟨zz, a, b⟩ he => ⟨zz, a, b.flz he⟩), Fct.val Flz 5 (.int .i64 1), Fct.obj 6 (fun v w => ∃ g, v = .pointer (some ⟨g, 0, none⟩) ∧ u8.heap.size ≤ g ∧ Has w g 26 ([.int .u64 0, .slice none 0 0])) (fun _ _ _ ⟨g, a, b, c⟩ he => ⟨g, a, b, c.flz he (by decide)⟩)] (fun w' => Below u8.heap.size u8 w') _ 7 2 chkKn9 (by kernel_rfl) (by kernel_rfl) (by kernel_rfl) (by decide) (Below.refl _ _) ?_ ?_
  · refine lt_s (lt_s (lt_s (lt_s (lt_s (lt_s (lt_s (lt_0) ?_) ?_) ?_) ?_) ?_) ?_) ?_
    · intro f w1 hS hf
      generalize hA : putAll _ _ f = aA
      have r5 : aA.eval (.tmp 5) = .pointer (some ⟨b5_4, 0, none⟩) := by rw [← hA]; exact putAll_off f 5 slotsKn9 a0 (by kernel_rfl) z5
      exact flw_val rfl rfl (.agg #[.int .u64 1, v5_2]) (ex_loadR 26 (.tmp 5) rfl ⟨b5_4, 0, none⟩ r5 (fun _ => by kernel_rfl) [.int .u64 1, v5_2] (by kernel_rfl) ((HX_b5_4.out.keepB hS).part [.int .u64 1, v5_2] 0 (fun j u hu => by rw [Nat.zero_add]; exact hu))) hS (Flz.refl _) (updF_self _ _ _)
    · intro f w1 hS hf
      generalize hA : putAll _ _ f = aA
      have r9 : aA.eval (.tmp 9) = .pointer (some ⟨b7_4, 0, none⟩) := by rw [← hA]; exact putAll_off f 9 slotsKn9 a0 (by kernel_rfl) z9
      exact flw_val rfl rfl (.agg #[.int .u64 1, v7_2]) (ex_loadR 26 (.tmp 9) rfl ⟨b7_4, 0, none⟩ r9 (fun _ => by kernel_rfl) [.int .u64 1, v7_2] (by kernel_rfl) ((HX_b7_4.out.keepB hS).part [.int .u64 1, v7_2] 0 (fun j u hu => by rw [Nat.zero_add]; exact hu))) hS (Flz.refl _) (updF_self _ _ _)
    · intro f w1 hS hf
      generalize hA : putAll _ _ f = aA
      have h47 : f 0 = .agg #[.int .u64 1, v5_2] := hf 0 (by decide)
      have r47 : aA.eval (.tmp 47) = .agg #[.int .u64 1, v5_2] := by rw [← hA]; exact putAll_at f 47 0 slotsKn9 a0 sbKn9 (by kernel_rfl) zsz rfl h47
      have h48 : f 1 = .agg #[.int .u64 1, v7_2] := hf 1 (by decide)
      have r48 : aA.eval (.tmp 48) = .agg #[.int .u64 1, v7_2] := by rw [← hA]; exact putAll_at f 48 1 slotsKn9 a0 sbKn9 (by kernel_rfl) zsz rfl h48
      exact flw_call rfl rfl 10 #[(.tmp 47), (.tmp 48)] _ rfl #[.agg #[.int .u64 1, v5_2], .agg #[.int .u64 1, v7_2]] (by simp only [List.map_toArray, List.map_cons, List.map_nil, r47, r48]) (fun w => by kernel_rfl) (fun v w' => ∃ zz, v = .tuple #[.agg #[.int .u64 0, zz], .int .i64 1] ∧ Cs w' zz (([] : List Ce))) (minusT_f 1 _ _ 1 _ _ (okM_len (by decide)) w1 (by decide) (HU5_2.out.keep hS) (HU7_2.out.keep hS)) (fun v w' hr hb => ⟨hS.trans (hb.mono hS.size), Flz.of hb, by obtain ⟨zz, a, b⟩ := hr; exact ⟨zz, (updF_self _ _ _).trans a, b⟩⟩)
    · intro f w1 hS hf
      generalize hA : putAll _ _ f = aA
      obtain ⟨x49, hx49, hr49⟩ := hf 2 (by decide)
      have e49 : aA.eval (.tmp 49) = .tuple #[.agg #[.int .u64 0, x49], .int .i64 1] := by rw [← hA]; exact putAll_at f 49 2 slotsKn9 a0 sbKn9 (by kernel_rfl) zsz rfl hx49
      exact flw_val rfl rfl (.tuple #[.agg #[.int .u64 0, x49], .int .i64 1]) (ex_move (.tmp 49) rfl e49) hS (Flz.refl _) ⟨x49, updF_self _ _ _, hr49⟩
    · intro f w1 hS hf
      generalize hA : putAll _ _ f = aA
      obtain ⟨x46, hx46, hr46⟩ := hf 3 (by decide)
      have e46 : aA.eval (.tmp 46) = .tuple #[.agg #[.int .u64 0, x46], .int .i64 1] := by rw [← hA]; exact putAll_at f 46 3 slotsKn9 a0 sbKn9 (by kernel_rfl) zsz rfl hx46
      exact flw_val rfl rfl (.agg #[.int .u64 0, x46]) (ex_extract (.tmp 46) 0 rfl e46 rfl) hS (Flz.refl _) ⟨x46, updF_self _ _ _, hr46⟩
    · intro f w1 hS hf
      generalize hA : putAll _ _ f = aA
      obtain ⟨x46, hx46, hr46⟩ := hf 3 (by decide)
      have e46 : aA.eval (.tmp 46) = .tuple #[.agg #[.int .u64 0, x46], .int .i64 1] := by rw [← hA]; exact putAll_at f 46 3 slotsKn9 a0 sbKn9 (by kernel_rfl) zsz rfl hx46
      exact flw_val rfl rfl (.int .i64 1) (ex_extract (.tmp 46) 1 rfl e46 rfl) hS (Flz.refl _) (updF_self _ _ _)
    · intro f w1 hS hf
      generalize hA : putAll _ _ f = aA
      exact flw_wp rfl rfl (fun K hK => wp_alloc_row 26 rfl (.agg #[.int .u64 0, .slice none 0 0]) (fun w => by kernel_rfl) (hK _ _ (hS.alloc hS.size _) (Flz.al _ _) ⟨_, updF_self _ _ _, hS.size, Has.made' _ _ _ _ rfl⟩))
  intro f x9 hS hf hap
  have h0 : f 0 = .agg #[.int .u64 1, v5_2] := hf 0 (by decide)
  have h1 : f 1 = .agg #[.int .u64 1, v7_2] := hf 1 (by decide)
  obtain ⟨v9_2, h2, -⟩ := hf 2 (by decide)
  obtain ⟨v9_3, h3, -⟩ := hf 3 (by decide)
  obtain ⟨v9_4, h4, hu4⟩ := hf 4 (by decide)
  have HU9_4 := Lib.hid hu4
  clear hu4
  have h5 : f 5 = .int .i64 1 := hf 5 (by decide)
  obtain ⟨b9_6, h6, hgb6, hhb6⟩ := hf 6 (by decide)
  clear hf hap
  clear zsz z5 z9
  subst ha0
  simp only [slotsKn9, putAll, h0, h1, h2, h3, h4, h5, h6, Act.put, List.setIfInBounds_toArray, List.set_cons_zero, List.set_cons_succ]
  clear h0 h1 h2 h3 h4 h5 h6
  refine tl_store rfl (by kernel_rfl) 26 (.tmp 13) (.tmp 50) rfl b9_6 ([.int .u64 0, v9_4]) _ rfl rfl _ hhb6 (by kernel_rfl) rfl (tb_ones _ HU9_4.out.one) ?_
  intro u9 hp6 hbl hot
  replace hS := hS.trans (hbl _ hgb6)
  replace HU9_4 := Lib.hid (HU9_4.out.hotb hhb6 ⟨_, _, _, rfl⟩ (by decide) (hbl 0 (Nat.zero_le _)).size hot)
  clear hbl hot hhb6
  try simp only [Act.put]
  refine tl_pure rfl (by kernel_rfl) (.int .i64 1) (ex_assign (.tmp 51) rfl rfl) ?_
  try simp only [Act.put, List.setIfInBounds_toArray, List.set_cons_zero, List.set_cons_succ]
  refine tl_nil ?_
  replace HX_b3_4 := Lib.hid (HX_b3_4.out.keepB hS)
  replace HU3_2 := Lib.hid (HU3_2.out.keep hS)
  replace HX_b4_4 := Lib.hid (HX_b4_4.out.keepB hS)
  replace HU4_2 := Lib.hid (HU4_2.out.keep hS)
  replace HX_b5_4 := Lib.hid (HX_b5_4.out.keepB hS)
  replace HU5_2 := Lib.hid (HU5_2.out.keep hS)
  replace HX_b6_4 := Lib.hid (HX_b6_4.out.keepB hS)
  replace HU6_2 := Lib.hid (HU6_2.out.keep hS)
  replace HX_b7_4 := Lib.hid (HX_b7_4.out.keepB hS)
  replace HU7_2 := Lib.hid (HU7_2.out.keep hS)
  replace HX_b8_6 := Lib.hid (HX_b8_6.out.keepB hS)
  replace HU8_4 := Lib.hid (HU8_4.out.keep hS)
  have HBW := Lib.hid HB.out.size
  replace HB := Lib.hid (HB.out.trans (hS.mono HB.out.size))
  clear hS
  have HGb9_6 : Hid (w.heap.size ≤ b9_6) := Lib.hid (Nat.le_trans HBW.out hgb6)
  have HX_b9_6 : Hid (Has u9 b9_6 26 ([.int .u64 0, v9_4])) := Lib.hid hp6
  clear hp6 hgb6
  clear HBW
  go_upto_region 10 with fail
  refine wp_act (fun a0 ha0 => ?_)
  have zsz : a0.tmps.size = 126 := by rw [ha0]; rfl
  refine wp_region_flwo (E := Flz) [] slotsKn10 waitKn10 [Fct.val Flz 0 (.agg #[.int .u64 0, .slice none 0 0]), Fct.val Flz 1 (.agg #[.int .u64 0, .slice none 0 0]), Fct.obj 2 (fun v w => ∃ zz, v = .tuple #[.agg #[.int .u64 0, zz], .int .i64 1] ∧ Cs w zz (([] : List Ce))) (fun _ _ _ ⟨zz, a, b⟩ he => ⟨zz, a, b.flz he⟩), Fct.obj 3 (fun v w => ∃ zz, v = .tuple #[.agg #[.int .u64 0, zz], .int .i64 1] ∧ Cs w zz (([] : List Ce))) (fun _ _ _ ⟨zz, a, b⟩ he => ⟨zz, a, b.flz he⟩), Fct.obj 4 (fun v w => ∃ zz, v = .agg #[.int .u64 0, zz] ∧ Cs w zz (([] : List Ce))) (fun _ _ _ ⟨zz, a, b⟩ he => ⟨zz, a, b.flz he⟩), Fct.val Flz 5 (.int .i64 1), Fct.obj 6 (fun v w => ∃ g, v = .pointer (some ⟨g, 0, none⟩) ∧ u9.heap.size ≤ g ∧ Has w g 26 ([.int .u64 0, .slice none 0 0])) (fun _ _ _ ⟨g, a, b, c⟩ he => ⟨g, a, b, c.flz he (by decide)⟩)] (fun w' => Below u9.heap.size u9 w') _ 7 2 chkKn10 (by kernel_rfl) (by kernel_rfl) (by kernel_rfl) (by decide) (Below.refl _ _) ?_ ?_
  · refine lt_s (lt_s (lt_s (lt_s (lt_s (lt_s (lt_s (lt_0) ?_) ?_) ?_) ?_) ?_) ?_) ?_
    · intro f w1 hS hf
      generalize hA : putAll _ _ f = aA
      exact flw_val rfl rfl (.agg #[.int .u64 0, .slice none 0 0]) (ex_build 26 _ rfl #[.int .u64 0, .slice none 0 0] [] (by kernel_rfl) builtT0) hS (Flz.refl _) (updF_self _ _ _)
    · intro f w1 hS hf
      generalize hA : putAll _ _ f = aA
      exact flw_val rfl rfl (.agg #[.int .u64 0, .slice none 0 0]) (ex_build 26 _ rfl #[.int .u64 0, .slice none 0 0] [] (by kernel_rfl) builtT0) hS (Flz.refl _) (updF_self _ _ _)
    · intro f w1 hS hf
      generalize hA : putAll _ _ f = aA
      have h53 : f 0 = .agg #[.int .u64 0, .slice none 0 0] := hf 0 (by decide)
      have r53 : aA.eval (.tmp 53) = .agg #[.int .u64 0, .slice none 0 0] := by rw [← hA]; exact putAll_at f 53 0 slotsKn10 a0 sbKn10 (by kernel_rfl) zsz rfl h53
      have h54 : f 1 = .agg #[.int .u64 0, .slice none 0 0] := hf 1 (by decide)
      have r54 : aA.eval (.tmp 54) = .agg #[.int .u64 0, .slice none 0 0] := by rw [← hA]; exact putAll_at f 54 1 slotsKn10 a0 sbKn10 (by kernel_rfl) zsz rfl h54
      exact flw_call rfl rfl 10 #[(.tmp 53), (.tmp 54)] _ rfl #[.agg #[.int .u64 0, .slice none 0 0], .agg #[.int .u64 0, .slice none 0 0]] (by simp only [List.map_toArray, List.map_cons, List.map_nil, r53, r54]) (fun w => by kernel_rfl) (fun v w' => ∃ zz, v = .tuple #[.agg #[.int .u64 0, zz], .int .i64 1] ∧ Cs w' zz (([] : List Ce))) (minusT_f 0 _ _ 0 _ _ (by decide) w1 (Nat.zero_le _) (Cs.nil w1) (Cs.nil w1)) (fun v w' hr hb => ⟨hS.trans (hb.mono hS.size), Flz.of hb, by obtain ⟨zz, a, b⟩ := hr; exact ⟨zz, (updF_self _ _ _).trans a, b⟩⟩)
    · intro f w1 hS hf
      generalize hA : putAll _ _ f = aA
      obtain ⟨x55, hx55, hr55⟩ := hf 2 (by decide)
      have e55 : aA.eval (.tmp 55) = .tuple #[.agg #[.int .u64 0, x55], .int .i64 1] := by rw [← hA]; exact putAll_at f 55 2 slotsKn10 a0 sbKn10 (by kernel_rfl) zsz rfl hx55
      exact flw_val rfl rfl (.tuple #[.agg #[.int .u64 0, x55], .int .i64 1]) (ex_move (.tmp 55) rfl e55) hS (Flz.refl _) ⟨x55, updF_self _ _ _, hr55⟩
    · intro f w1 hS hf
      generalize hA : putAll _ _ f = aA
      obtain ⟨x52, hx52, hr52⟩ := hf 3 (by decide)
      have e52 : aA.eval (.tmp 52) = .tuple #[.agg #[.int .u64 0, x52], .int .i64 1] := by rw [← hA]; exact putAll_at f 52 3 slotsKn10 a0 sbKn10 (by kernel_rfl) zsz rfl hx52
      exact flw_val rfl rfl (.agg #[.int .u64 0, x52]) (ex_extract (.tmp 52) 0 rfl e52 rfl) hS (Flz.refl _) ⟨x52, updF_self _ _ _, hr52⟩
    · intro f w1 hS hf
      generalize hA : putAll _ _ f = aA
      obtain ⟨x52, hx52, hr52⟩ := hf 3 (by decide)
      have e52 : aA.eval (.tmp 52) = .tuple #[.agg #[.int .u64 0, x52], .int .i64 1] := by rw [← hA]; exact putAll_at f 52 3 slotsKn10 a0 sbKn10 (by kernel_rfl) zsz rfl hx52
      exact flw_val rfl rfl (.int .i64 1) (ex_extract (.tmp 52) 1 rfl e52 rfl) hS (Flz.refl _) (updF_self _ _ _)
    · intro f w1 hS hf
      generalize hA : putAll _ _ f = aA
      exact flw_wp rfl rfl (fun K hK => wp_alloc_row 26 rfl (.agg #[.int .u64 0, .slice none 0 0]) (fun w => by kernel_rfl) (hK _ _ (hS.alloc hS.size _) (Flz.al _ _) ⟨_, updF_self _ _ _, hS.size, Has.made' _ _ _ _ rfl⟩))
  intro f x10 hS hf hap
  have h0 : f 0 = .agg #[.int .u64 0, .slice none 0 0] := hf 0 (by decide)
  have h1 : f 1 = .agg #[.int .u64 0, .slice none 0 0] := hf 1 (by decide)
  obtain ⟨v10_2, h2, -⟩ := hf 2 (by decide)
  obtain ⟨v10_3, h3, -⟩ := hf 3 (by decide)
  obtain ⟨v10_4, h4, hu4⟩ := hf 4 (by decide)
  have HU10_4 := Lib.hid hu4
  clear hu4
  have h5 : f 5 = .int .i64 1 := hf 5 (by decide)
  obtain ⟨b10_6, h6, hgb6, hhb6⟩ := hf 6 (by decide)
  clear hf hap
  clear zsz
  subst ha0
  simp only [slotsKn10, putAll, h0, h1, h2, h3, h4, h5, h6, Act.put, List.setIfInBounds_toArray, List.set_cons_zero, List.set_cons_succ]
  clear h0 h1 h2 h3 h4 h5 h6
  refine tl_store rfl (by kernel_rfl) 26 (.tmp 15) (.tmp 56) rfl b10_6 ([.int .u64 0, v10_4]) _ rfl rfl _ hhb6 (by kernel_rfl) rfl (tb_ones _ HU10_4.out.one) ?_
  intro u10 hp6 hbl hot
  replace hS := hS.trans (hbl _ hgb6)
  replace HU10_4 := Lib.hid (HU10_4.out.hotb hhb6 ⟨_, _, _, rfl⟩ (by decide) (hbl 0 (Nat.zero_le _)).size hot)
  clear hbl hot hhb6
  try simp only [Act.put]
  refine tl_pure rfl (by kernel_rfl) (.int .i64 1) (ex_assign (.tmp 57) rfl rfl) ?_
  try simp only [Act.put, List.setIfInBounds_toArray, List.set_cons_zero, List.set_cons_succ]
  refine tl_nil ?_
  replace HX_b3_4 := Lib.hid (HX_b3_4.out.keepB hS)
  replace HU3_2 := Lib.hid (HU3_2.out.keep hS)
  replace HX_b4_4 := Lib.hid (HX_b4_4.out.keepB hS)
  replace HU4_2 := Lib.hid (HU4_2.out.keep hS)
  replace HX_b5_4 := Lib.hid (HX_b5_4.out.keepB hS)
  replace HU5_2 := Lib.hid (HU5_2.out.keep hS)
  replace HX_b6_4 := Lib.hid (HX_b6_4.out.keepB hS)
  replace HU6_2 := Lib.hid (HU6_2.out.keep hS)
  replace HX_b7_4 := Lib.hid (HX_b7_4.out.keepB hS)
  replace HU7_2 := Lib.hid (HU7_2.out.keep hS)
  replace HX_b8_6 := Lib.hid (HX_b8_6.out.keepB hS)
  replace HU8_4 := Lib.hid (HU8_4.out.keep hS)
  replace HX_b9_6 := Lib.hid (HX_b9_6.out.keepB hS)
  replace HU9_4 := Lib.hid (HU9_4.out.keep hS)
  have HBW := Lib.hid HB.out.size
  replace HB := Lib.hid (HB.out.trans (hS.mono HB.out.size))
  clear hS
  have HGb10_6 : Hid (w.heap.size ≤ b10_6) := Lib.hid (Nat.le_trans HBW.out hgb6)
  have HX_b10_6 : Hid (Has u10 b10_6 26 ([.int .u64 0, v10_4])) := Lib.hid hp6
  clear hp6 hgb6
  clear HBW
  go_upto_region 11 with fail
  refine wp_act (fun a0 ha0 => ?_)
  have zsz : a0.tmps.size = 126 := by rw [ha0]; rfl
  refine wp_region_flwo (E := Flz) [] slotsKn11 waitKn11 [Fct.obj 0 (fun v w => ∃ zz, v = zz ∧ RowO u10.heap.size 68 w zz (List.replicate 4 zC)) (fun _ _ _ ⟨zz, a, b⟩ he => ⟨zz, a, b.flz he⟩), Fct.obj 1 (fun v w => ∃ zz, v = .agg #[.int .u64 1, zz] ∧ RowO u10.heap.size 68 w zz (List.replicate 4 zC)) (fun _ _ _ ⟨zz, a, b⟩ he => ⟨zz, a, b.flz he⟩), Fct.obj 2 (fun v w => ∃ g, v = .pointer (some ⟨g, 0, none⟩) ∧ u10.heap.size ≤ g ∧ Has w g 26 ([.int .u64 0, .slice none 0 0])) (fun _ _ _ ⟨g, a, b, c⟩ he => ⟨g, a, b, c.flz he (by decide)⟩)] (fun w' => Below u10.heap.size u10 w') _ 3 1 chkKn11 (by kernel_rfl) (by kernel_rfl) (by kernel_rfl) (by decide) (Below.refl _ _) ?_ ?_
  · refine lt_s (lt_s (lt_s (lt_0) ?_) ?_) ?_
    · intro f w1 hS hf
      generalize hA : putAll _ _ f = aA
      exact flw_wp rfl rfl (fun K hK => wp_make_ce 24 68 elC _ _ rfl 4 (by decide) (rfl.trans rfl) (rfl.trans rfl) (fun w' h1 h2 => hK _ _ (hS.trans (h2.mono hS.size)) (Flz.of h2) ⟨_, updF_self _ _ _, h1.less hS.size⟩))
    · intro f w1 hS hf
      generalize hA : putAll _ _ f = aA
      obtain ⟨x58, hx58, hr58⟩ := hf 0 (by decide)
      have e58 : aA.eval (.tmp 58) = x58 := by rw [← hA]; exact putAll_at f 58 0 slotsKn11 a0 sbKn11 (by kernel_rfl) zsz rfl hx58
      exact flw_val rfl rfl (.agg #[.int .u64 1, x58]) (ex_build 26 _ rfl #[.int .u64 1, x58] [(0, .int .u64 1), (1, x58)] (by simp only [List.map_toArray, List.map_cons, List.map_nil, e58]; rfl) (builtTs _ hr58.sl)) hS (Flz.refl _) ⟨x58, updF_self _ _ _, hr58⟩
    · intro f w1 hS hf
      generalize hA : putAll _ _ f = aA
      exact flw_wp rfl rfl (fun K hK => wp_alloc_row 26 rfl (.agg #[.int .u64 0, .slice none 0 0]) (fun w => by kernel_rfl) (hK _ _ (hS.alloc hS.size _) (Flz.al _ _) ⟨_, updF_self _ _ _, hS.size, Has.made' _ _ _ _ rfl⟩))
  intro f x11 hS hf hap
  obtain ⟨v11_0, h0, -⟩ := hf 0 (by decide)
  obtain ⟨v11_1, h1, hu1⟩ := hf 1 (by decide)
  have HU11_1 := Lib.hid hu1
  clear hu1
  obtain ⟨b11_2, h2, hgb2, hhb2⟩ := hf 2 (by decide)
  clear hf hap
  clear zsz
  subst ha0
  simp only [slotsKn11, putAll, h0, h1, h2, Act.put, List.setIfInBounds_toArray, List.set_cons_zero, List.set_cons_succ]
  clear h0 h1 h2
  refine tl_store rfl (by kernel_rfl) 26 (.tmp 17) (.tmp 59) rfl b11_2 ([.int .u64 1, v11_1]) _ rfl rfl _ hhb2 (by kernel_rfl) rfl (tb_ones _ HU11_1.out.one) ?_
  intro u11 hp2 hbl hot
  replace hS := hS.trans (hbl _ hgb2)
  replace HU11_1 := Lib.hid (HU11_1.out.hotb hhb2 ⟨_, _, _, rfl⟩ (by decide) (hbl 0 (Nat.zero_le _)).size hot)
  clear hbl hot hhb2
  try simp only [Act.put]
  refine tl_nil ?_
  replace HX_b3_4 := Lib.hid (HX_b3_4.out.keepB hS)
  replace HU3_2 := Lib.hid (HU3_2.out.keep hS)
  replace HX_b4_4 := Lib.hid (HX_b4_4.out.keepB hS)
  replace HU4_2 := Lib.hid (HU4_2.out.keep hS)
  replace HX_b5_4 := Lib.hid (HX_b5_4.out.keepB hS)
  replace HU5_2 := Lib.hid (HU5_2.out.keep hS)
  replace HX_b6_4 := Lib.hid (HX_b6_4.out.keepB hS)
  replace HU6_2 := Lib.hid (HU6_2.out.keep hS)
  replace HX_b7_4 := Lib.hid (HX_b7_4.out.keepB hS)
  replace HU7_2 := Lib.hid (HU7_2.out.keep hS)
  replace HX_b8_6 := Lib.hid (HX_b8_6.out.keepB hS)
  replace HU8_4 := Lib.hid (HU8_4.out.keep hS)
  replace HX_b9_6 := Lib.hid (HX_b9_6.out.keepB hS)
  replace HU9_4 := Lib.hid (HU9_4.out.keep hS)
  replace HX_b10_6 := Lib.hid (HX_b10_6.out.keepB hS)
  replace HU10_4 := Lib.hid (HU10_4.out.keep hS)
  have HBW := Lib.hid HB.out.size
  replace HB := Lib.hid (HB.out.trans (hS.mono HB.out.size))
  clear hS
  have HGb11_2 : Hid (w.heap.size ≤ b11_2) := Lib.hid (Nat.le_trans HBW.out hgb2)
  have HX_b11_2 : Hid (Has u11 b11_2 26 ([.int .u64 1, v11_1])) := Lib.hid hp2
  clear hp2 hgb2
  clear HBW
  have HZ4 : Hid (Cs u11 v11_1 Z4) := Lib.hid HU11_1.out.cs
  clear HU11_1
  go_upto_region 12 with fail
  have HST : Hid (Below u11.heap.size u11 u11.drew) := Lib.hid (Below.refl _ _).drew
  replace HX_b3_4 := Lib.hid (HX_b3_4.out.keepB HST.out)
  replace HU3_2 := Lib.hid (HU3_2.out.keep HST.out)
  replace HX_b4_4 := Lib.hid (HX_b4_4.out.keepB HST.out)
  replace HU4_2 := Lib.hid (HU4_2.out.keep HST.out)
  replace HX_b5_4 := Lib.hid (HX_b5_4.out.keepB HST.out)
  replace HU5_2 := Lib.hid (HU5_2.out.keep HST.out)
  replace HX_b6_4 := Lib.hid (HX_b6_4.out.keepB HST.out)
  replace HU6_2 := Lib.hid (HU6_2.out.keep HST.out)
  replace HX_b7_4 := Lib.hid (HX_b7_4.out.keepB HST.out)
  replace HU7_2 := Lib.hid (HU7_2.out.keep HST.out)
  replace HX_b8_6 := Lib.hid (HX_b8_6.out.keepB HST.out)
  replace HU8_4 := Lib.hid (HU8_4.out.keep HST.out)
  replace HX_b9_6 := Lib.hid (HX_b9_6.out.keepB HST.out)
  replace HU9_4 := Lib.hid (HU9_4.out.keep HST.out)
  replace HX_b10_6 := Lib.hid (HX_b10_6.out.keepB HST.out)
  replace HU10_4 := Lib.hid (HU10_4.out.keep HST.out)
  replace HX_b11_2 := Lib.hid (HX_b11_2.out.keepB HST.out)
  replace HZ4 := Lib.hid (HZ4.out.keep HST.out)
  replace HB := Lib.hid (HB.out.trans (HST.out.mono HB.out.size))
  clear HST
  try simp only [List.append_eq, List.cons_append, List.nil_append]
  refine wp_act (fun a0 ha0 => ?_)
  have zsz : a0.tmps.size = 126 := by rw [ha0]; rfl
  have z2 : a0.eval (.tmp 2) = .int .i64 1 := by rw [ha0]; rfl
  have z4 : a0.eval (.tmp 4) = .int .i64 1 := by rw [ha0]; rfl
  have z12 : a0.eval (.tmp 12) = .int .i64 1 := by rw [ha0]; rfl
  have z14 : a0.eval (.tmp 14) = .int .i64 1 := by rw [ha0]; rfl
  have z16 : a0.eval (.tmp 16) = .int .i64 1 := by rw [ha0]; rfl
  have z17 : a0.eval (.tmp 17) = .pointer (some ⟨b11_2, 0, none⟩) := by rw [ha0]; rfl
  have z5 : a0.eval (.tmp 5) = .pointer (some ⟨b5_4, 0, none⟩) := by rw [ha0]; rfl
  refine wp_region_flw (E := Flz) [] slotsKn12 waitKn12 [Fct.val Flz 0 (.int .i64 1), Fct.val Flz 1 (.bool true), Fct.val Flz 2 (.bool true), Fct.val Flz 3 (.int .i64 1), Fct.val Flz 4 (.bool true), Fct.val Flz 5 (.bool true), Fct.val Flz 6 (.bool true), Fct.val Flz 7 (.int .i64 1), Fct.val Flz 8 (.bool true), Fct.val Flz 9 (.bool true), Fct.val Flz 10 (.bool true), Fct.val Flz 11 (.int .i64 1), Fct.val Flz 12 (.bool true), Fct.val Flz 13 (.bool true), Fct.val Flz 14 (.bool true), Fct.val Flz 15 (.int .i64 1), Fct.val Flz 16 (.bool true), Fct.val Flz 17 (.bool true), Fct.val Flz 18 (.bool true), Fct.val Flz 19 (.agg #[.int .u64 1, v11_1]), Fct.val Flz 20 (.bool false), Fct.val Flz 21 (.bool true), Fct.val Flz 22 (.bool true), Fct.val Flz 23 (.bool true), Fct.val Flz 24 (.agg #[.int .u64 1, v5_2]), Fct.val Flz 25 (.bool true), Fct.val Flz 26 (.bool true), Fct.val Flz 27 (.bool true), Fct.val Flz 28 (.agg #[.int .u64 1, v5_2]), Fct.val Flz 29 (.bool true), Fct.val Flz 30 (.bool true), Fct.val Flz 31 (.bool true), Fct.val Flz 32 (.agg #[.int .u64 0, .slice none 0 0]), Fct.val Flz 33 (.bool false), Fct.val Flz 34 (.bool true), Fct.val Flz 35 (.bool true), Fct.val Flz 36 (.bool true), Fct.val Flz 37 (.agg #[.int .u64 1, v11_1]), Fct.val Flz 38 (.bool false), Fct.val Flz 39 (.bool true), Fct.val Flz 40 (.bool true), Fct.val Flz 41 (.bool true), Fct.val Flz 42 (.agg #[.int .u64 1, v11_1]), Fct.val Flz 43 (.int .i64 (cntT (Z4))), Fct.val Flz 44 (.bool true), Fct.val Flz 45 (.bool true), Fct.val Flz 46 (.bool true), Fct.val Flz 47 (.agg #[.int .u64 1, v11_1]), Fct.val Flz 48 (.agg (encU sOne).toArray), Fct.obj 49 (fun v w => ∃ zz, v = .agg #[.int .u64 1, zz] ∧ Cs w zz (layT putC 1 sOne (Z4))) (fun _ _ _ ⟨zz, a, b⟩ he => ⟨zz, a, b.flz he⟩), Fct.obj 50 (fun v w => ∃ zz, v = .agg #[.int .u64 1, zz] ∧ Cs w zz (layT putC 1 sOne (Z4))) (fun _ _ _ ⟨zz, a, b⟩ he => ⟨zz, a, b.flz he⟩), Fct.val Flz 51 (.agg #[.int .u64 1, v11_1]), Fct.obj 52 (fun v w => ∃ zz, v = .agg #[.int .u64 1, zz] ∧ Cs w zz (Z4)) (fun _ _ _ ⟨zz, a, b⟩ he => ⟨zz, a, b.flz he⟩), Fct.val Flz 53 (.bool true), Fct.val Flz 54 (.bool true), Fct.val Flz 55 (.bool true), Fct.val Flz 56 (.agg #[.int .u64 1, v5_2]), Fct.val Flz 57 (.agg (encU sOne).toArray), Fct.obj 58 (fun v w => ∃ zz, v = .agg #[.int .u64 1, zz] ∧ Cs w zz (layT takeC 1 sOne (Z12))) (fun _ _ _ ⟨zz, a, b⟩ he => ⟨zz, a, b.flz he⟩), Fct.val Flz 59 (.int .i64 (cntT (layT takeC 1 sOne (Z12)))), Fct.val Flz 60 (.bool true), Fct.val Flz 61 (.bool true), Fct.val Flz 62 (.bool true), Fct.val Flz 63 (.agg #[.int .u64 1, v5_2]), Fct.val Flz 64 (.bool true), Fct.val Flz 65 (.bool true), Fct.val Flz 66 (.bool true)] (fun w' => Below u11.drew.heap.size u11.drew w') _ 67 0 chkKn12 (by kernel_rfl) (by kernel_rfl) (by kernel_rfl) (by kernel_rfl) (by decide) (Below.refl _ _) ?_ ?_
  · refine lt_s (lt_s (lt_s (lt_s (lt_s (lt_s (lt_s (lt_s (lt_s (lt_s (lt_s (lt_s (lt_s (lt_s (lt_s (lt_s (lt_s (lt_s (lt_s (lt_s (lt_s (lt_s (lt_s (lt_s (lt_s (lt_s (lt_s (lt_s (lt_s (lt_s (lt_s (lt_s (lt_s (lt_s (lt_s (lt_s (lt_s (lt_s (lt_s (lt_s (lt_s (lt_s (lt_s (lt_s (lt_s (lt_s (lt_s (lt_s (lt_s (lt_s (lt_s (lt_s (lt_s (lt_s (lt_s (lt_s (lt_s (lt_s (lt_s (lt_s (lt_s (lt_s (lt_s (lt_s (lt_s (lt_s (lt_s (lt_0) ?_) ?_) ?_) ?_) ?_) ?_) ?_) ?_) ?_) ?_) ?_) ?_) ?_) ?_) ?_) ?_) ?_) ?_) ?_) ?_) ?_) ?_) ?_) ?_) ?_) ?_) ?_) ?_) ?_) ?_) ?_) ?_) ?_) ?_) ?_) ?_) ?_) ?_) ?_) ?_) ?_) ?_) ?_) ?_) ?_) ?_) ?_) ?_) ?_) ?_) ?_) ?_) ?_) ?_) ?_) ?_) ?_) ?_) ?_) ?_) ?_) ?_) ?_) ?_) ?_) ?_) ?_
    · intro f w1 hS hf
      generalize hA : putAll _ _ f = aA
      have r2 : aA.eval (.tmp 2) = .int .i64 1 := by rw [← hA]; exact putAll_off f 2 slotsKn12 a0 (by kernel_rfl) z2
      exact flw_val rfl rfl (.int .i64 1) (ex_move (.tmp 2) rfl r2) hS (Flz.refl _) (updF_self _ _ _)
    · intro f w1 hS hf
      generalize hA : putAll _ _ f = aA
      have h60 : f 0 = .int .i64 1 := hf 0 (by decide)
      have r60 : aA.eval (.tmp 60) = .int .i64 1 := by rw [← hA]; exact putAll_at f 60 0 slotsKn12 a0 sbKn12 (by kernel_rfl) zsz rfl h60
      exact flw_val rfl rfl (.bool true) (Eq.trans (ex_int .eql _ _ (.tmp 60) _ rfl .i64 1 1 r60 rfl (.bool ((1 : Int) == (1 : Int))) (fun _ => rfl)) (by rw [(by decide : ((1 : Int) == (1 : Int)) = true)])) hS (Flz.refl _) (updF_self _ _ _)
    · intro f w1 hS hf
      generalize hA : putAll _ _ f = aA
      have h61 : f 1 = .bool true := hf 1 (by decide)
      have r61 : aA.eval (.tmp 61) = .bool true := by rw [← hA]; exact putAll_at f 61 1 slotsKn12 a0 sbKn12 (by kernel_rfl) zsz rfl h61
      exact flw_val rfl rfl (.bool true) (ex_move (.tmp 61) rfl r61) hS (Flz.refl _) (updF_self _ _ _)
    · intro f w1 hS hf
      generalize hA : putAll _ _ f = aA
      have g62 : f 2 = .bool true := hf 2 (by decide)
      have t62 : aA.tmps[62]? = some (.bool true) := by rw [← hA]; exact putAll_g f 62 2 slotsKn12 a0 sbKn12 (by kernel_rfl) zsz rfl g62
      have r4 : aA.eval (.tmp 4) = .int .i64 1 := by rw [← hA]; exact putAll_off f 4 slotsKn12 a0 (by kernel_rfl) z4
      exact flw_val rfl ((wanted_of rfl 62 rfl t62).trans rfl) (.int .i64 1) (ex_move (.tmp 4) rfl r4) hS (Flz.refl _) (updF_self _ _ _)
    · intro f w1 hS hf
      generalize hA : putAll _ _ f = aA
      have g62 : f 2 = .bool true := hf 2 (by decide)
      have t62 : aA.tmps[62]? = some (.bool true) := by rw [← hA]; exact putAll_g f 62 2 slotsKn12 a0 sbKn12 (by kernel_rfl) zsz rfl g62
      have h63 : f 3 = .int .i64 1 := hf 3 (by decide)
      have r63 : aA.eval (.tmp 63) = .int .i64 1 := by rw [← hA]; exact putAll_at f 63 3 slotsKn12 a0 sbKn12 (by kernel_rfl) zsz rfl h63
      exact flw_val rfl ((wanted_of rfl 62 rfl t62).trans rfl) (.bool true) (Eq.trans (ex_int .eql _ _ (.tmp 63) _ rfl .i64 1 1 r63 rfl (.bool ((1 : Int) == (1 : Int))) (fun _ => rfl)) (by rw [(by decide : ((1 : Int) == (1 : Int)) = true)])) hS (Flz.refl _) (updF_self _ _ _)
    · intro f w1 hS hf
      generalize hA : putAll _ _ f = aA
      have h62 : f 2 = .bool true := hf 2 (by decide)
      have r62 : aA.eval (.tmp 62) = .bool true := by rw [← hA]; exact putAll_at f 62 2 slotsKn12 a0 sbKn12 (by kernel_rfl) zsz rfl h62
      have h64 : f 4 = .bool true := hf 4 (by decide)
      have r64 : aA.eval (.tmp 64) = .bool true := by rw [← hA]; exact putAll_at f 64 4 slotsKn12 a0 sbKn12 (by kernel_rfl) zsz rfl h64
      exact flw_val rfl rfl (.bool true) (ex_pick (.tmp 62) (.tmp 64) _ rfl true r62 ((if_pos rfl).trans r64)) hS (Flz.refl _) (updF_self _ _ _)
    · intro f w1 hS hf
      generalize hA : putAll _ _ f = aA
      have h65 : f 5 = .bool true := hf 5 (by decide)
      have r65 : aA.eval (.tmp 65) = .bool true := by rw [← hA]; exact putAll_at f 65 5 slotsKn12 a0 sbKn12 (by kernel_rfl) zsz rfl h65
      exact flw_val rfl rfl (.bool true) (ex_move (.tmp 65) rfl r65) hS (Flz.refl _) (updF_self _ _ _)
    · intro f w1 hS hf
      generalize hA : putAll _ _ f = aA
      have g66 : f 6 = .bool true := hf 6 (by decide)
      have t66 : aA.tmps[66]? = some (.bool true) := by rw [← hA]; exact putAll_g f 66 6 slotsKn12 a0 sbKn12 (by kernel_rfl) zsz rfl g66
      have r12 : aA.eval (.tmp 12) = .int .i64 1 := by rw [← hA]; exact putAll_off f 12 slotsKn12 a0 (by kernel_rfl) z12
      exact flw_val rfl ((wanted_of rfl 66 rfl t66).trans rfl) (.int .i64 1) (ex_move (.tmp 12) rfl r12) hS (Flz.refl _) (updF_self _ _ _)
    · intro f w1 hS hf
      generalize hA : putAll _ _ f = aA
      have g66 : f 6 = .bool true := hf 6 (by decide)
      have t66 : aA.tmps[66]? = some (.bool true) := by rw [← hA]; exact putAll_g f 66 6 slotsKn12 a0 sbKn12 (by kernel_rfl) zsz rfl g66
      have h67 : f 7 = .int .i64 1 := hf 7 (by decide)
      have r67 : aA.eval (.tmp 67) = .int .i64 1 := by rw [← hA]; exact putAll_at f 67 7 slotsKn12 a0 sbKn12 (by kernel_rfl) zsz rfl h67
      exact flw_val rfl ((wanted_of rfl 66 rfl t66).trans rfl) (.bool true) (Eq.trans (ex_int .eql _ _ (.tmp 67) _ rfl .i64 1 1 r67 rfl (.bool ((1 : Int) == (1 : Int))) (fun _ => rfl)) (by rw [(by decide : ((1 : Int) == (1 : Int)) = true)])) hS (Flz.refl _) (updF_self _ _ _)
    · intro f w1 hS hf
      generalize hA : putAll _ _ f = aA
      have h66 : f 6 = .bool true := hf 6 (by decide)
      have r66 : aA.eval (.tmp 66) = .bool true := by rw [← hA]; exact putAll_at f 66 6 slotsKn12 a0 sbKn12 (by kernel_rfl) zsz rfl h66
      have h68 : f 8 = .bool true := hf 8 (by decide)
      have r68 : aA.eval (.tmp 68) = .bool true := by rw [← hA]; exact putAll_at f 68 8 slotsKn12 a0 sbKn12 (by kernel_rfl) zsz rfl h68
      exact flw_val rfl rfl (.bool true) (ex_pick (.tmp 66) (.tmp 68) _ rfl true r66 ((if_pos rfl).trans r68)) hS (Flz.refl _) (updF_self _ _ _)
    · intro f w1 hS hf
      generalize hA : putAll _ _ f = aA
      have h69 : f 9 = .bool true := hf 9 (by decide)
      have r69 : aA.eval (.tmp 69) = .bool true := by rw [← hA]; exact putAll_at f 69 9 slotsKn12 a0 sbKn12 (by kernel_rfl) zsz rfl h69
      exact flw_val rfl rfl (.bool true) (ex_move (.tmp 69) rfl r69) hS (Flz.refl _) (updF_self _ _ _)
    · intro f w1 hS hf
      generalize hA : putAll _ _ f = aA
      have g70 : f 10 = .bool true := hf 10 (by decide)
      have t70 : aA.tmps[70]? = some (.bool true) := by rw [← hA]; exact putAll_g f 70 10 slotsKn12 a0 sbKn12 (by kernel_rfl) zsz rfl g70
      have r14 : aA.eval (.tmp 14) = .int .i64 1 := by rw [← hA]; exact putAll_off f 14 slotsKn12 a0 (by kernel_rfl) z14
      exact flw_val rfl ((wanted_of rfl 70 rfl t70).trans rfl) (.int .i64 1) (ex_move (.tmp 14) rfl r14) hS (Flz.refl _) (updF_self _ _ _)
    · intro f w1 hS hf
      generalize hA : putAll _ _ f = aA
      have g70 : f 10 = .bool true := hf 10 (by decide)
      have t70 : aA.tmps[70]? = some (.bool true) := by rw [← hA]; exact putAll_g f 70 10 slotsKn12 a0 sbKn12 (by kernel_rfl) zsz rfl g70
      have h71 : f 11 = .int .i64 1 := hf 11 (by decide)
      have r71 : aA.eval (.tmp 71) = .int .i64 1 := by rw [← hA]; exact putAll_at f 71 11 slotsKn12 a0 sbKn12 (by kernel_rfl) zsz rfl h71
      exact flw_val rfl ((wanted_of rfl 70 rfl t70).trans rfl) (.bool true) (Eq.trans (ex_int .eql _ _ (.tmp 71) _ rfl .i64 1 1 r71 rfl (.bool ((1 : Int) == (1 : Int))) (fun _ => rfl)) (by rw [(by decide : ((1 : Int) == (1 : Int)) = true)])) hS (Flz.refl _) (updF_self _ _ _)
    · intro f w1 hS hf
      generalize hA : putAll _ _ f = aA
      have h70 : f 10 = .bool true := hf 10 (by decide)
      have r70 : aA.eval (.tmp 70) = .bool true := by rw [← hA]; exact putAll_at f 70 10 slotsKn12 a0 sbKn12 (by kernel_rfl) zsz rfl h70
      have h72 : f 12 = .bool true := hf 12 (by decide)
      have r72 : aA.eval (.tmp 72) = .bool true := by rw [← hA]; exact putAll_at f 72 12 slotsKn12 a0 sbKn12 (by kernel_rfl) zsz rfl h72
      exact flw_val rfl rfl (.bool true) (ex_pick (.tmp 70) (.tmp 72) _ rfl true r70 ((if_pos rfl).trans r72)) hS (Flz.refl _) (updF_self _ _ _)
    · intro f w1 hS hf
      generalize hA : putAll _ _ f = aA
      have h73 : f 13 = .bool true := hf 13 (by decide)
      have r73 : aA.eval (.tmp 73) = .bool true := by rw [← hA]; exact putAll_at f 73 13 slotsKn12 a0 sbKn12 (by kernel_rfl) zsz rfl h73
      exact flw_val rfl rfl (.bool true) (ex_move (.tmp 73) rfl r73) hS (Flz.refl _) (updF_self _ _ _)
    · intro f w1 hS hf
      generalize hA : putAll _ _ f = aA
      have g74 : f 14 = .bool true := hf 14 (by decide)
      have t74 : aA.tmps[74]? = some (.bool true) := by rw [← hA]; exact putAll_g f 74 14 slotsKn12 a0 sbKn12 (by kernel_rfl) zsz rfl g74
      have r16 : aA.eval (.tmp 16) = .int .i64 1 := by rw [← hA]; exact putAll_off f 16 slotsKn12 a0 (by kernel_rfl) z16
      exact flw_val rfl ((wanted_of rfl 74 rfl t74).trans rfl) (.int .i64 1) (ex_move (.tmp 16) rfl r16) hS (Flz.refl _) (updF_self _ _ _)
    · intro f w1 hS hf
      generalize hA : putAll _ _ f = aA
      have g74 : f 14 = .bool true := hf 14 (by decide)
      have t74 : aA.tmps[74]? = some (.bool true) := by rw [← hA]; exact putAll_g f 74 14 slotsKn12 a0 sbKn12 (by kernel_rfl) zsz rfl g74
      have h75 : f 15 = .int .i64 1 := hf 15 (by decide)
      have r75 : aA.eval (.tmp 75) = .int .i64 1 := by rw [← hA]; exact putAll_at f 75 15 slotsKn12 a0 sbKn12 (by kernel_rfl) zsz rfl h75
      exact flw_val rfl ((wanted_of rfl 74 rfl t74).trans rfl) (.bool true) (Eq.trans (ex_int .eql _ _ (.tmp 75) _ rfl .i64 1 1 r75 rfl (.bool ((1 : Int) == (1 : Int))) (fun _ => rfl)) (by rw [(by decide : ((1 : Int) == (1 : Int)) = true)])) hS (Flz.refl _) (updF_self _ _ _)
    · intro f w1 hS hf
      generalize hA : putAll _ _ f = aA
      have h74 : f 14 = .bool true := hf 14 (by decide)
      have r74 : aA.eval (.tmp 74) = .bool true := by rw [← hA]; exact putAll_at f 74 14 slotsKn12 a0 sbKn12 (by kernel_rfl) zsz rfl h74
      have h76 : f 16 = .bool true := hf 16 (by decide)
      have r76 : aA.eval (.tmp 76) = .bool true := by rw [← hA]; exact putAll_at f 76 16 slotsKn12 a0 sbKn12 (by kernel_rfl) zsz rfl h76
      exact flw_val rfl rfl (.bool true) (ex_pick (.tmp 74) (.tmp 76) _ rfl true r74 ((if_pos rfl).trans r76)) hS (Flz.refl _) (updF_self _ _ _)
    · intro f w1 hS hf
      generalize hA : putAll _ _ f = aA
      have h77 : f 17 = .bool true := hf 17 (by decide)
      have r77 : aA.eval (.tmp 77) = .bool true := by rw [← hA]; exact putAll_at f 77 17 slotsKn12 a0 sbKn12 (by kernel_rfl) zsz rfl h77
      exact flw_val rfl rfl (.bool true) (ex_move (.tmp 77) rfl r77) hS (Flz.refl _) (updF_self _ _ _)
    · intro f w1 hS hf
      generalize hA : putAll _ _ f = aA
      have g78 : f 18 = .bool true := hf 18 (by decide)
      have t78 : aA.tmps[78]? = some (.bool true) := by rw [← hA]; exact putAll_g f 78 18 slotsKn12 a0 sbKn12 (by kernel_rfl) zsz rfl g78
      have r17 : aA.eval (.tmp 17) = .pointer (some ⟨b11_2, 0, none⟩) := by rw [← hA]; exact putAll_off f 17 slotsKn12 a0 (by kernel_rfl) z17
      exact flw_val rfl ((wanted_of rfl 78 rfl t78).trans rfl) (.agg #[.int .u64 1, v11_1]) (ex_loadR 26 (.tmp 17) rfl ⟨b11_2, 0, none⟩ r17 (fun _ => by kernel_rfl) [.int .u64 1, v11_1] (by kernel_rfl) ((HX_b11_2.out.keepB hS).part [.int .u64 1, v11_1] 0 (fun j u hu => by rw [Nat.zero_add]; exact hu))) hS (Flz.refl _) (updF_self _ _ _)
    · intro f w1 hS hf
      generalize hA : putAll _ _ f = aA
      have g78 : f 18 = .bool true := hf 18 (by decide)
      have t78 : aA.tmps[78]? = some (.bool true) := by rw [← hA]; exact putAll_g f 78 18 slotsKn12 a0 sbKn12 (by kernel_rfl) zsz rfl g78
      have h79 : f 19 = .agg #[.int .u64 1, v11_1] := hf 19 (by decide)
      have r79 : aA.eval (.tmp 79) = .agg #[.int .u64 1, v11_1] := by rw [← hA]; exact putAll_at f 79 19 slotsKn12 a0 sbKn12 (by kernel_rfl) zsz rfl h79
      exact flw_call rfl ((wanted_of rfl 78 rfl t78).trans rfl) 11 #[(.tmp 79)] _ rfl #[.agg #[.int .u64 1, v11_1]] (by simp only [List.map_toArray, List.map_cons, List.map_nil, r79]) (fun w => by kernel_rfl) (fun v _ => v = .bool false) (as_any (goodT_any _ _ _ w1 (HZ4.out.keep hS)) (congrArg Value.bool kn1)) (fun v w' hr hb => ⟨hS.trans (hb.mono hS.size), Flz.of hb, (updF_self _ _ _).trans hr⟩)
    · intro f w1 hS hf
      generalize hA : putAll _ _ f = aA
      have g78 : f 18 = .bool true := hf 18 (by decide)
      have t78 : aA.tmps[78]? = some (.bool true) := by rw [← hA]; exact putAll_g f 78 18 slotsKn12 a0 sbKn12 (by kernel_rfl) zsz rfl g78
      have h80 : f 20 = .bool false := hf 20 (by decide)
      have r80 : aA.eval (.tmp 80) = .bool false := by rw [← hA]; exact putAll_at f 80 20 slotsKn12 a0 sbKn12 (by kernel_rfl) zsz rfl h80
      exact flw_val rfl ((wanted_of rfl 78 rfl t78).trans rfl) (.bool true) (ex_not _ (.tmp 80) rfl r80) hS (Flz.refl _) (updF_self _ _ _)
    · intro f w1 hS hf
      generalize hA : putAll _ _ f = aA
      have h78 : f 18 = .bool true := hf 18 (by decide)
      have r78 : aA.eval (.tmp 78) = .bool true := by rw [← hA]; exact putAll_at f 78 18 slotsKn12 a0 sbKn12 (by kernel_rfl) zsz rfl h78
      have h81 : f 21 = .bool true := hf 21 (by decide)
      have r81 : aA.eval (.tmp 81) = .bool true := by rw [← hA]; exact putAll_at f 81 21 slotsKn12 a0 sbKn12 (by kernel_rfl) zsz rfl h81
      exact flw_val rfl rfl (.bool true) (ex_pick (.tmp 78) (.tmp 81) _ rfl true r78 ((if_pos rfl).trans r81)) hS (Flz.refl _) (updF_self _ _ _)
    · intro f w1 hS hf
      generalize hA : putAll _ _ f = aA
      have h82 : f 22 = .bool true := hf 22 (by decide)
      have r82 : aA.eval (.tmp 82) = .bool true := by rw [← hA]; exact putAll_at f 82 22 slotsKn12 a0 sbKn12 (by kernel_rfl) zsz rfl h82
      exact flw_val rfl rfl (.bool true) (ex_move (.tmp 82) rfl r82) hS (Flz.refl _) (updF_self _ _ _)
    · intro f w1 hS hf
      generalize hA : putAll _ _ f = aA
      have g83 : f 23 = .bool true := hf 23 (by decide)
      have t83 : aA.tmps[83]? = some (.bool true) := by rw [← hA]; exact putAll_g f 83 23 slotsKn12 a0 sbKn12 (by kernel_rfl) zsz rfl g83
      have r5 : aA.eval (.tmp 5) = .pointer (some ⟨b5_4, 0, none⟩) := by rw [← hA]; exact putAll_off f 5 slotsKn12 a0 (by kernel_rfl) z5
      exact flw_val rfl ((wanted_of rfl 83 rfl t83).trans rfl) (.agg #[.int .u64 1, v5_2]) (ex_loadR 26 (.tmp 5) rfl ⟨b5_4, 0, none⟩ r5 (fun _ => by kernel_rfl) [.int .u64 1, v5_2] (by kernel_rfl) ((HX_b5_4.out.keepB hS).part [.int .u64 1, v5_2] 0 (fun j u hu => by rw [Nat.zero_add]; exact hu))) hS (Flz.refl _) (updF_self _ _ _)
    · intro f w1 hS hf
      generalize hA : putAll _ _ f = aA
      have g83 : f 23 = .bool true := hf 23 (by decide)
      have t83 : aA.tmps[83]? = some (.bool true) := by rw [← hA]; exact putAll_g f 83 23 slotsKn12 a0 sbKn12 (by kernel_rfl) zsz rfl g83
      have h84 : f 24 = .agg #[.int .u64 1, v5_2] := hf 24 (by decide)
      have r84 : aA.eval (.tmp 84) = .agg #[.int .u64 1, v5_2] := by rw [← hA]; exact putAll_at f 84 24 slotsKn12 a0 sbKn12 (by kernel_rfl) zsz rfl h84
      exact flw_call rfl ((wanted_of rfl 83 rfl t83).trans rfl) 11 #[(.tmp 84)] _ rfl #[.agg #[.int .u64 1, v5_2]] (by simp only [List.map_toArray, List.map_cons, List.map_nil, r84]) (fun w => by kernel_rfl) (fun v _ => v = .bool true) (as_any (goodT_any _ _ _ w1 (HU5_2.out.keep hS)) (congrArg Value.bool kn2)) (fun v w' hr hb => ⟨hS.trans (hb.mono hS.size), Flz.of hb, (updF_self _ _ _).trans hr⟩)
    · intro f w1 hS hf
      generalize hA : putAll _ _ f = aA
      have h83 : f 23 = .bool true := hf 23 (by decide)
      have r83 : aA.eval (.tmp 83) = .bool true := by rw [← hA]; exact putAll_at f 83 23 slotsKn12 a0 sbKn12 (by kernel_rfl) zsz rfl h83
      have h85 : f 25 = .bool true := hf 25 (by decide)
      have r85 : aA.eval (.tmp 85) = .bool true := by rw [← hA]; exact putAll_at f 85 25 slotsKn12 a0 sbKn12 (by kernel_rfl) zsz rfl h85
      exact flw_val rfl rfl (.bool true) (ex_pick (.tmp 83) (.tmp 85) _ rfl true r83 ((if_pos rfl).trans r85)) hS (Flz.refl _) (updF_self _ _ _)
    · intro f w1 hS hf
      generalize hA : putAll _ _ f = aA
      have h86 : f 26 = .bool true := hf 26 (by decide)
      have r86 : aA.eval (.tmp 86) = .bool true := by rw [← hA]; exact putAll_at f 86 26 slotsKn12 a0 sbKn12 (by kernel_rfl) zsz rfl h86
      exact flw_val rfl rfl (.bool true) (ex_move (.tmp 86) rfl r86) hS (Flz.refl _) (updF_self _ _ _)
    · intro f w1 hS hf
      generalize hA : putAll _ _ f = aA
      have g87 : f 27 = .bool true := hf 27 (by decide)
      have t87 : aA.tmps[87]? = some (.bool true) := by rw [← hA]; exact putAll_g f 87 27 slotsKn12 a0 sbKn12 (by kernel_rfl) zsz rfl g87
      have r5 : aA.eval (.tmp 5) = .pointer (some ⟨b5_4, 0, none⟩) := by rw [← hA]; exact putAll_off f 5 slotsKn12 a0 (by kernel_rfl) z5
      exact flw_val rfl ((wanted_of rfl 87 rfl t87).trans rfl) (.agg #[.int .u64 1, v5_2]) (ex_loadR 26 (.tmp 5) rfl ⟨b5_4, 0, none⟩ r5 (fun _ => by kernel_rfl) [.int .u64 1, v5_2] (by kernel_rfl) ((HX_b5_4.out.keepB hS).part [.int .u64 1, v5_2] 0 (fun j u hu => by rw [Nat.zero_add]; exact hu))) hS (Flz.refl _) (updF_self _ _ _)
    · intro f w1 hS hf
      generalize hA : putAll _ _ f = aA
      have g87 : f 27 = .bool true := hf 27 (by decide)
      have t87 : aA.tmps[87]? = some (.bool true) := by rw [← hA]; exact putAll_g f 87 27 slotsKn12 a0 sbKn12 (by kernel_rfl) zsz rfl g87
      have h88 : f 28 = .agg #[.int .u64 1, v5_2] := hf 28 (by decide)
      have r88 : aA.eval (.tmp 88) = .agg #[.int .u64 1, v5_2] := by rw [← hA]; exact putAll_at f 88 28 slotsKn12 a0 sbKn12 (by kernel_rfl) zsz rfl h88
      exact flw_call rfl ((wanted_of rfl 87 rfl t87).trans rfl) 12 #[(.tmp 88)] _ rfl #[.agg #[.int .u64 1, v5_2]] (by simp only [List.map_toArray, List.map_cons, List.map_nil, r88]) (fun w => by kernel_rfl) (fun v _ => v = .bool true) (as_any (zeroT_any _ _ _ w1 (by decide) (HU5_2.out.keep hS)) (congrArg Value.bool kn3)) (fun v w' hr hb => ⟨hS.trans (hb.mono hS.size), Flz.of hb, (updF_self _ _ _).trans hr⟩)
    · intro f w1 hS hf
      generalize hA : putAll _ _ f = aA
      have h87 : f 27 = .bool true := hf 27 (by decide)
      have r87 : aA.eval (.tmp 87) = .bool true := by rw [← hA]; exact putAll_at f 87 27 slotsKn12 a0 sbKn12 (by kernel_rfl) zsz rfl h87
      have h89 : f 29 = .bool true := hf 29 (by decide)
      have r89 : aA.eval (.tmp 89) = .bool true := by rw [← hA]; exact putAll_at f 89 29 slotsKn12 a0 sbKn12 (by kernel_rfl) zsz rfl h89
      exact flw_val rfl rfl (.bool true) (ex_pick (.tmp 87) (.tmp 89) _ rfl true r87 ((if_pos rfl).trans r89)) hS (Flz.refl _) (updF_self _ _ _)
    · intro f w1 hS hf
      generalize hA : putAll _ _ f = aA
      have h90 : f 30 = .bool true := hf 30 (by decide)
      have r90 : aA.eval (.tmp 90) = .bool true := by rw [← hA]; exact putAll_at f 90 30 slotsKn12 a0 sbKn12 (by kernel_rfl) zsz rfl h90
      exact flw_val rfl rfl (.bool true) (ex_move (.tmp 90) rfl r90) hS (Flz.refl _) (updF_self _ _ _)
    · intro f w1 hS hf
      generalize hA : putAll _ _ f = aA
      have g91 : f 31 = .bool true := hf 31 (by decide)
      have t91 : aA.tmps[91]? = some (.bool true) := by rw [← hA]; exact putAll_g f 91 31 slotsKn12 a0 sbKn12 (by kernel_rfl) zsz rfl g91
      exact flw_val rfl ((wanted_of rfl 91 rfl t91).trans rfl) (.agg #[.int .u64 0, .slice none 0 0]) (ex_build 26 _ rfl #[.int .u64 0, .slice none 0 0] [] (by kernel_rfl) builtT0) hS (Flz.refl _) (updF_self _ _ _)
    · intro f w1 hS hf
      generalize hA : putAll _ _ f = aA
      have g91 : f 31 = .bool true := hf 31 (by decide)
      have t91 : aA.tmps[91]? = some (.bool true) := by rw [← hA]; exact putAll_g f 91 31 slotsKn12 a0 sbKn12 (by kernel_rfl) zsz rfl g91
      have h92 : f 32 = .agg #[.int .u64 0, .slice none 0 0] := hf 32 (by decide)
      have r92 : aA.eval (.tmp 92) = .agg #[.int .u64 0, .slice none 0 0] := by rw [← hA]; exact putAll_at f 92 32 slotsKn12 a0 sbKn12 (by kernel_rfl) zsz rfl h92
      exact flw_call rfl ((wanted_of rfl 91 rfl t91).trans rfl) 12 #[(.tmp 92)] _ rfl #[.agg #[.int .u64 0, .slice none 0 0]] (by simp only [List.map_toArray, List.map_cons, List.map_nil, r92]) (fun w => by kernel_rfl) (fun v _ => v = .bool false) (as_any (zeroT_any _ _ _ w1 (Nat.zero_le _) (Cs.nil w1)) (congrArg Value.bool kn4)) (fun v w' hr hb => ⟨hS.trans (hb.mono hS.size), Flz.of hb, (updF_self _ _ _).trans hr⟩)
    · intro f w1 hS hf
      generalize hA : putAll _ _ f = aA
      have g91 : f 31 = .bool true := hf 31 (by decide)
      have t91 : aA.tmps[91]? = some (.bool true) := by rw [← hA]; exact putAll_g f 91 31 slotsKn12 a0 sbKn12 (by kernel_rfl) zsz rfl g91
      have h93 : f 33 = .bool false := hf 33 (by decide)
      have r93 : aA.eval (.tmp 93) = .bool false := by rw [← hA]; exact putAll_at f 93 33 slotsKn12 a0 sbKn12 (by kernel_rfl) zsz rfl h93
      exact flw_val rfl ((wanted_of rfl 91 rfl t91).trans rfl) (.bool true) (ex_not _ (.tmp 93) rfl r93) hS (Flz.refl _) (updF_self _ _ _)
    · intro f w1 hS hf
      generalize hA : putAll _ _ f = aA
      have h91 : f 31 = .bool true := hf 31 (by decide)
      have r91 : aA.eval (.tmp 91) = .bool true := by rw [← hA]; exact putAll_at f 91 31 slotsKn12 a0 sbKn12 (by kernel_rfl) zsz rfl h91
      have h94 : f 34 = .bool true := hf 34 (by decide)
      have r94 : aA.eval (.tmp 94) = .bool true := by rw [← hA]; exact putAll_at f 94 34 slotsKn12 a0 sbKn12 (by kernel_rfl) zsz rfl h94
      exact flw_val rfl rfl (.bool true) (ex_pick (.tmp 91) (.tmp 94) _ rfl true r91 ((if_pos rfl).trans r94)) hS (Flz.refl _) (updF_self _ _ _)
    · intro f w1 hS hf
      generalize hA : putAll _ _ f = aA
      have h95 : f 35 = .bool true := hf 35 (by decide)
      have r95 : aA.eval (.tmp 95) = .bool true := by rw [← hA]; exact putAll_at f 95 35 slotsKn12 a0 sbKn12 (by kernel_rfl) zsz rfl h95
      exact flw_val rfl rfl (.bool true) (ex_move (.tmp 95) rfl r95) hS (Flz.refl _) (updF_self _ _ _)
    · intro f w1 hS hf
      generalize hA : putAll _ _ f = aA
      have g96 : f 36 = .bool true := hf 36 (by decide)
      have t96 : aA.tmps[96]? = some (.bool true) := by rw [← hA]; exact putAll_g f 96 36 slotsKn12 a0 sbKn12 (by kernel_rfl) zsz rfl g96
      have r17 : aA.eval (.tmp 17) = .pointer (some ⟨b11_2, 0, none⟩) := by rw [← hA]; exact putAll_off f 17 slotsKn12 a0 (by kernel_rfl) z17
      exact flw_val rfl ((wanted_of rfl 96 rfl t96).trans rfl) (.agg #[.int .u64 1, v11_1]) (ex_loadR 26 (.tmp 17) rfl ⟨b11_2, 0, none⟩ r17 (fun _ => by kernel_rfl) [.int .u64 1, v11_1] (by kernel_rfl) ((HX_b11_2.out.keepB hS).part [.int .u64 1, v11_1] 0 (fun j u hu => by rw [Nat.zero_add]; exact hu))) hS (Flz.refl _) (updF_self _ _ _)
    · intro f w1 hS hf
      generalize hA : putAll _ _ f = aA
      have g96 : f 36 = .bool true := hf 36 (by decide)
      have t96 : aA.tmps[96]? = some (.bool true) := by rw [← hA]; exact putAll_g f 96 36 slotsKn12 a0 sbKn12 (by kernel_rfl) zsz rfl g96
      have h97 : f 37 = .agg #[.int .u64 1, v11_1] := hf 37 (by decide)
      have r97 : aA.eval (.tmp 97) = .agg #[.int .u64 1, v11_1] := by rw [← hA]; exact putAll_at f 97 37 slotsKn12 a0 sbKn12 (by kernel_rfl) zsz rfl h97
      exact flw_call rfl ((wanted_of rfl 96 rfl t96).trans rfl) 12 #[(.tmp 97)] _ rfl #[.agg #[.int .u64 1, v11_1]] (by simp only [List.map_toArray, List.map_cons, List.map_nil, r97]) (fun w => by kernel_rfl) (fun v _ => v = .bool false) (as_any (zeroT_any _ _ _ w1 (by decide) (HZ4.out.keep hS)) (congrArg Value.bool kn5)) (fun v w' hr hb => ⟨hS.trans (hb.mono hS.size), Flz.of hb, (updF_self _ _ _).trans hr⟩)
    · intro f w1 hS hf
      generalize hA : putAll _ _ f = aA
      have g96 : f 36 = .bool true := hf 36 (by decide)
      have t96 : aA.tmps[96]? = some (.bool true) := by rw [← hA]; exact putAll_g f 96 36 slotsKn12 a0 sbKn12 (by kernel_rfl) zsz rfl g96
      have h98 : f 38 = .bool false := hf 38 (by decide)
      have r98 : aA.eval (.tmp 98) = .bool false := by rw [← hA]; exact putAll_at f 98 38 slotsKn12 a0 sbKn12 (by kernel_rfl) zsz rfl h98
      exact flw_val rfl ((wanted_of rfl 96 rfl t96).trans rfl) (.bool true) (ex_not _ (.tmp 98) rfl r98) hS (Flz.refl _) (updF_self _ _ _)
    · intro f w1 hS hf
      generalize hA : putAll _ _ f = aA
      have h96 : f 36 = .bool true := hf 36 (by decide)
      have r96 : aA.eval (.tmp 96) = .bool true := by rw [← hA]; exact putAll_at f 96 36 slotsKn12 a0 sbKn12 (by kernel_rfl) zsz rfl h96
      have h99 : f 39 = .bool true := hf 39 (by decide)
      have r99 : aA.eval (.tmp 99) = .bool true := by rw [← hA]; exact putAll_at f 99 39 slotsKn12 a0 sbKn12 (by kernel_rfl) zsz rfl h99
      exact flw_val rfl rfl (.bool true) (ex_pick (.tmp 96) (.tmp 99) _ rfl true r96 ((if_pos rfl).trans r99)) hS (Flz.refl _) (updF_self _ _ _)
    · intro f w1 hS hf
      generalize hA : putAll _ _ f = aA
      have h100 : f 40 = .bool true := hf 40 (by decide)
      have r100 : aA.eval (.tmp 100) = .bool true := by rw [← hA]; exact putAll_at f 100 40 slotsKn12 a0 sbKn12 (by kernel_rfl) zsz rfl h100
      exact flw_val rfl rfl (.bool true) (ex_move (.tmp 100) rfl r100) hS (Flz.refl _) (updF_self _ _ _)
    · intro f w1 hS hf
      generalize hA : putAll _ _ f = aA
      have g101 : f 41 = .bool true := hf 41 (by decide)
      have t101 : aA.tmps[101]? = some (.bool true) := by rw [← hA]; exact putAll_g f 101 41 slotsKn12 a0 sbKn12 (by kernel_rfl) zsz rfl g101
      have r17 : aA.eval (.tmp 17) = .pointer (some ⟨b11_2, 0, none⟩) := by rw [← hA]; exact putAll_off f 17 slotsKn12 a0 (by kernel_rfl) z17
      exact flw_val rfl ((wanted_of rfl 101 rfl t101).trans rfl) (.agg #[.int .u64 1, v11_1]) (ex_loadR 26 (.tmp 17) rfl ⟨b11_2, 0, none⟩ r17 (fun _ => by kernel_rfl) [.int .u64 1, v11_1] (by kernel_rfl) ((HX_b11_2.out.keepB hS).part [.int .u64 1, v11_1] 0 (fun j u hu => by rw [Nat.zero_add]; exact hu))) hS (Flz.refl _) (updF_self _ _ _)
    · intro f w1 hS hf
      generalize hA : putAll _ _ f = aA
      have g101 : f 41 = .bool true := hf 41 (by decide)
      have t101 : aA.tmps[101]? = some (.bool true) := by rw [← hA]; exact putAll_g f 101 41 slotsKn12 a0 sbKn12 (by kernel_rfl) zsz rfl g101
      have h102 : f 42 = .agg #[.int .u64 1, v11_1] := hf 42 (by decide)
      have r102 : aA.eval (.tmp 102) = .agg #[.int .u64 1, v11_1] := by rw [← hA]; exact putAll_at f 102 42 slotsKn12 a0 sbKn12 (by kernel_rfl) zsz rfl h102
      exact flw_call rfl ((wanted_of rfl 101 rfl t101).trans rfl) 13 #[(.tmp 102)] _ rfl #[.agg #[.int .u64 1, v11_1]] (by simp only [List.map_toArray, List.map_cons, List.map_nil, r102]) (fun w => by kernel_rfl) (fun v _ => v = .int .i64 (cntT (Z4))) (countT_any _ _ _ w1 (by decide) (HZ4.out.keep hS)) (fun v w' hr hb => ⟨hS.trans (hb.mono hS.size), Flz.of hb, (updF_self _ _ _).trans hr⟩)
    · intro f w1 hS hf
      generalize hA : putAll _ _ f = aA
      have g101 : f 41 = .bool true := hf 41 (by decide)
      have t101 : aA.tmps[101]? = some (.bool true) := by rw [← hA]; exact putAll_g f 101 41 slotsKn12 a0 sbKn12 (by kernel_rfl) zsz rfl g101
      have h103 : f 43 = .int .i64 (cntT (Z4)) := hf 43 (by decide)
      have r103 : aA.eval (.tmp 103) = .int .i64 (cntT (Z4)) := by rw [← hA]; exact putAll_at f 103 43 slotsKn12 a0 sbKn12 (by kernel_rfl) zsz rfl h103
      exact flw_val rfl ((wanted_of rfl 101 rfl t101).trans rfl) (.bool true) (Eq.trans (ex_int .eql _ _ (.tmp 103) _ rfl .i64 (cntT (Z4)) 0 r103 rfl (.bool ((cntT (Z4)) == (0 : Int))) (fun _ => rfl)) (by rw [(show ((cntT (Z4)) == (0 : Int)) = true by rw [kn6]; rfl)])) hS (Flz.refl _) (updF_self _ _ _)
    · intro f w1 hS hf
      generalize hA : putAll _ _ f = aA
      have h101 : f 41 = .bool true := hf 41 (by decide)
      have r101 : aA.eval (.tmp 101) = .bool true := by rw [← hA]; exact putAll_at f 101 41 slotsKn12 a0 sbKn12 (by kernel_rfl) zsz rfl h101
      have h104 : f 44 = .bool true := hf 44 (by decide)
      have r104 : aA.eval (.tmp 104) = .bool true := by rw [← hA]; exact putAll_at f 104 44 slotsKn12 a0 sbKn12 (by kernel_rfl) zsz rfl h104
      exact flw_val rfl rfl (.bool true) (ex_pick (.tmp 101) (.tmp 104) _ rfl true r101 ((if_pos rfl).trans r104)) hS (Flz.refl _) (updF_self _ _ _)
    · intro f w1 hS hf
      generalize hA : putAll _ _ f = aA
      have h105 : f 45 = .bool true := hf 45 (by decide)
      have r105 : aA.eval (.tmp 105) = .bool true := by rw [← hA]; exact putAll_at f 105 45 slotsKn12 a0 sbKn12 (by kernel_rfl) zsz rfl h105
      exact flw_val rfl rfl (.bool true) (ex_move (.tmp 105) rfl r105) hS (Flz.refl _) (updF_self _ _ _)
    · intro f w1 hS hf
      generalize hA : putAll _ _ f = aA
      have g106 : f 46 = .bool true := hf 46 (by decide)
      have t106 : aA.tmps[106]? = some (.bool true) := by rw [← hA]; exact putAll_g f 106 46 slotsKn12 a0 sbKn12 (by kernel_rfl) zsz rfl g106
      have r17 : aA.eval (.tmp 17) = .pointer (some ⟨b11_2, 0, none⟩) := by rw [← hA]; exact putAll_off f 17 slotsKn12 a0 (by kernel_rfl) z17
      exact flw_val rfl ((wanted_of rfl 106 rfl t106).trans rfl) (.agg #[.int .u64 1, v11_1]) (ex_loadR 26 (.tmp 17) rfl ⟨b11_2, 0, none⟩ r17 (fun _ => by kernel_rfl) [.int .u64 1, v11_1] (by kernel_rfl) ((HX_b11_2.out.keepB hS).part [.int .u64 1, v11_1] 0 (fun j u hu => by rw [Nat.zero_add]; exact hu))) hS (Flz.refl _) (updF_self _ _ _)
    · intro f w1 hS hf
      generalize hA : putAll _ _ f = aA
      have g106 : f 46 = .bool true := hf 46 (by decide)
      have t106 : aA.tmps[106]? = some (.bool true) := by rw [← hA]; exact putAll_g f 106 46 slotsKn12 a0 sbKn12 (by kernel_rfl) zsz rfl g106
      exact flw_val rfl ((wanted_of rfl 106 rfl t106).trans rfl) (.agg (encU sOne).toArray) (ex_build 41 _ rfl (encU sOne).toArray [(0, .int .u8 1)] (by kernel_rfl) (by kernel_rfl)) hS (Flz.refl _) (updF_self _ _ _)
    · intro f w1 hS hf
      generalize hA : putAll _ _ f = aA
      have g106 : f 46 = .bool true := hf 46 (by decide)
      have t106 : aA.tmps[106]? = some (.bool true) := by rw [← hA]; exact putAll_g f 106 46 slotsKn12 a0 sbKn12 (by kernel_rfl) zsz rfl g106
      have h107 : f 47 = .agg #[.int .u64 1, v11_1] := hf 47 (by decide)
      have r107 : aA.eval (.tmp 107) = .agg #[.int .u64 1, v11_1] := by rw [← hA]; exact putAll_at f 107 47 slotsKn12 a0 sbKn12 (by kernel_rfl) zsz rfl h107
      have h108 : f 48 = .agg (encU sOne).toArray := hf 48 (by decide)
      have r108 : aA.eval (.tmp 108) = .agg (encU sOne).toArray := by rw [← hA]; exact putAll_at f 108 48 slotsKn12 a0 sbKn12 (by kernel_rfl) zsz rfl h108
      exact flw_call rfl ((wanted_of rfl 106 rfl t106).trans rfl) 16 #[(.tmp 107), (.tmp 108)] _ rfl #[.agg #[.int .u64 1, v11_1], .agg (encU sOne).toArray] (by simp only [List.map_toArray, List.map_cons, List.map_nil, r107, r108]) (fun w => by kernel_rfl) (fun v w' => ∃ zz, v = .agg #[.int .u64 1, zz] ∧ Cs w' zz (layT putC 1 sOne (Z4))) (putT_any 1 sOne _ _ w1 (by decide) (HL.out.keep (HB.out.trans (hS.mono HB.out.size)) HSZ.out) (by decide) (HZ4.out.keep hS)) (fun v w' hr hb => ⟨hS.trans (hb.mono hS.size), Flz.of hb, by obtain ⟨zz, a, b⟩ := hr; exact ⟨zz, (updF_self _ _ _).trans a, b⟩⟩)
    · intro f w1 hS hf
      generalize hA : putAll _ _ f = aA
      have g106 : f 46 = .bool true := hf 46 (by decide)
      have t106 : aA.tmps[106]? = some (.bool true) := by rw [← hA]; exact putAll_g f 106 46 slotsKn12 a0 sbKn12 (by kernel_rfl) zsz rfl g106
      obtain ⟨x109, hx109, hr109⟩ := hf 49 (by decide)
      have e109 : aA.eval (.tmp 109) = .agg #[.int .u64 1, x109] := by rw [← hA]; exact putAll_at f 109 49 slotsKn12 a0 sbKn12 (by kernel_rfl) zsz rfl hx109
      exact flw_call rfl ((wanted_of rfl 106 rfl t106).trans rfl) 15 #[(.tmp 109)] _ rfl #[.agg #[.int .u64 1, x109]] (by simp only [List.map_toArray, List.map_cons, List.map_nil, e109]) (fun w => by kernel_rfl) (fun v w' => ∃ zz, v = .agg #[.int .u64 1, zz] ∧ Cs w' zz (layT putC 1 sOne (Z4))) (tableOf_any 1 _ _ w1 (Nat.le_trans (by rw [layT_len]; decide) (show 10000 ≤ 100000 by decide)) hr109) (fun v w' hr hb => ⟨hS.trans (hb.mono hS.size), Flz.of hb, by obtain ⟨zz, a, b⟩ := hr; exact ⟨zz, (updF_self _ _ _).trans a, b⟩⟩)
    · intro f w1 hS hf
      generalize hA : putAll _ _ f = aA
      have g106 : f 46 = .bool true := hf 46 (by decide)
      have t106 : aA.tmps[106]? = some (.bool true) := by rw [← hA]; exact putAll_g f 106 46 slotsKn12 a0 sbKn12 (by kernel_rfl) zsz rfl g106
      have r17 : aA.eval (.tmp 17) = .pointer (some ⟨b11_2, 0, none⟩) := by rw [← hA]; exact putAll_off f 17 slotsKn12 a0 (by kernel_rfl) z17
      exact flw_val rfl ((wanted_of rfl 106 rfl t106).trans rfl) (.agg #[.int .u64 1, v11_1]) (ex_loadR 26 (.tmp 17) rfl ⟨b11_2, 0, none⟩ r17 (fun _ => by kernel_rfl) [.int .u64 1, v11_1] (by kernel_rfl) ((HX_b11_2.out.keepB hS).part [.int .u64 1, v11_1] 0 (fun j u hu => by rw [Nat.zero_add]; exact hu))) hS (Flz.refl _) (updF_self _ _ _)
    · intro f w1 hS hf
      generalize hA : putAll _ _ f = aA
      have g106 : f 46 = .bool true := hf 46 (by decide)
      have t106 : aA.tmps[106]? = some (.bool true) := by rw [← hA]; exact putAll_g f 106 46 slotsKn12 a0 sbKn12 (by kernel_rfl) zsz rfl g106
      have h111 : f 51 = .agg #[.int .u64 1, v11_1] := hf 51 (by decide)
      have r111 : aA.eval (.tmp 111) = .agg #[.int .u64 1, v11_1] := by rw [← hA]; exact putAll_at f 111 51 slotsKn12 a0 sbKn12 (by kernel_rfl) zsz rfl h111
      exact flw_call rfl ((wanted_of rfl 106 rfl t106).trans rfl) 15 #[(.tmp 111)] _ rfl #[.agg #[.int .u64 1, v11_1]] (by simp only [List.map_toArray, List.map_cons, List.map_nil, r111]) (fun w => by kernel_rfl) (fun v w' => ∃ zz, v = .agg #[.int .u64 1, zz] ∧ Cs w' zz (Z4)) (tableOf_any 1 _ _ w1 (Nat.le_trans (by decide) (show 10000 ≤ 100000 by decide)) (HZ4.out.keep hS)) (fun v w' hr hb => ⟨hS.trans (hb.mono hS.size), Flz.of hb, by obtain ⟨zz, a, b⟩ := hr; exact ⟨zz, (updF_self _ _ _).trans a, b⟩⟩)
    · intro f w1 hS hf
      generalize hA : putAll _ _ f = aA
      have g106 : f 46 = .bool true := hf 46 (by decide)
      have t106 : aA.tmps[106]? = some (.bool true) := by rw [← hA]; exact putAll_g f 106 46 slotsKn12 a0 sbKn12 (by kernel_rfl) zsz rfl g106
      obtain ⟨x110, hx110, hr110⟩ := hf 50 (by decide)
      have e110 : aA.eval (.tmp 110) = .agg #[.int .u64 1, x110] := by rw [← hA]; exact putAll_at f 110 50 slotsKn12 a0 sbKn12 (by kernel_rfl) zsz rfl hx110
      obtain ⟨x112, hx112, hr112⟩ := hf 52 (by decide)
      have e112 : aA.eval (.tmp 112) = .agg #[.int .u64 1, x112] := by rw [← hA]; exact putAll_at f 112 52 slotsKn12 a0 sbKn12 (by kernel_rfl) zsz rfl hx112
      exact flw_call rfl ((wanted_of rfl 106 rfl t106).trans rfl) 14 #[(.tmp 110), (.tmp 112)] _ rfl #[.agg #[.int .u64 1, x110], .agg #[.int .u64 1, x112]] (by simp only [List.map_toArray, List.map_cons, List.map_nil, e110, e112]) (fun w => by kernel_rfl) (fun v _ => v = .bool true) (as_any (sameT_any 1 _ _ 1 _ _ w1 (by rw [layT_len]; decide) hr110 hr112) (congrArg Value.bool (same_tw 1 kn7))) (fun v w' hr hb => ⟨hS.trans (hb.mono hS.size), Flz.of hb, (updF_self _ _ _).trans hr⟩)
    · intro f w1 hS hf
      generalize hA : putAll _ _ f = aA
      have h106 : f 46 = .bool true := hf 46 (by decide)
      have r106 : aA.eval (.tmp 106) = .bool true := by rw [← hA]; exact putAll_at f 106 46 slotsKn12 a0 sbKn12 (by kernel_rfl) zsz rfl h106
      have h113 : f 53 = .bool true := hf 53 (by decide)
      have r113 : aA.eval (.tmp 113) = .bool true := by rw [← hA]; exact putAll_at f 113 53 slotsKn12 a0 sbKn12 (by kernel_rfl) zsz rfl h113
      exact flw_val rfl rfl (.bool true) (ex_pick (.tmp 106) (.tmp 113) _ rfl true r106 ((if_pos rfl).trans r113)) hS (Flz.refl _) (updF_self _ _ _)
    · intro f w1 hS hf
      generalize hA : putAll _ _ f = aA
      have h114 : f 54 = .bool true := hf 54 (by decide)
      have r114 : aA.eval (.tmp 114) = .bool true := by rw [← hA]; exact putAll_at f 114 54 slotsKn12 a0 sbKn12 (by kernel_rfl) zsz rfl h114
      exact flw_val rfl rfl (.bool true) (ex_move (.tmp 114) rfl r114) hS (Flz.refl _) (updF_self _ _ _)
    · intro f w1 hS hf
      generalize hA : putAll _ _ f = aA
      have g115 : f 55 = .bool true := hf 55 (by decide)
      have t115 : aA.tmps[115]? = some (.bool true) := by rw [← hA]; exact putAll_g f 115 55 slotsKn12 a0 sbKn12 (by kernel_rfl) zsz rfl g115
      have r5 : aA.eval (.tmp 5) = .pointer (some ⟨b5_4, 0, none⟩) := by rw [← hA]; exact putAll_off f 5 slotsKn12 a0 (by kernel_rfl) z5
      exact flw_val rfl ((wanted_of rfl 115 rfl t115).trans rfl) (.agg #[.int .u64 1, v5_2]) (ex_loadR 26 (.tmp 5) rfl ⟨b5_4, 0, none⟩ r5 (fun _ => by kernel_rfl) [.int .u64 1, v5_2] (by kernel_rfl) ((HX_b5_4.out.keepB hS).part [.int .u64 1, v5_2] 0 (fun j u hu => by rw [Nat.zero_add]; exact hu))) hS (Flz.refl _) (updF_self _ _ _)
    · intro f w1 hS hf
      generalize hA : putAll _ _ f = aA
      have g115 : f 55 = .bool true := hf 55 (by decide)
      have t115 : aA.tmps[115]? = some (.bool true) := by rw [← hA]; exact putAll_g f 115 55 slotsKn12 a0 sbKn12 (by kernel_rfl) zsz rfl g115
      exact flw_val rfl ((wanted_of rfl 115 rfl t115).trans rfl) (.agg (encU sOne).toArray) (ex_build 41 _ rfl (encU sOne).toArray [(0, .int .u8 1)] (by kernel_rfl) (by kernel_rfl)) hS (Flz.refl _) (updF_self _ _ _)
    · intro f w1 hS hf
      generalize hA : putAll _ _ f = aA
      have g115 : f 55 = .bool true := hf 55 (by decide)
      have t115 : aA.tmps[115]? = some (.bool true) := by rw [← hA]; exact putAll_g f 115 55 slotsKn12 a0 sbKn12 (by kernel_rfl) zsz rfl g115
      have h116 : f 56 = .agg #[.int .u64 1, v5_2] := hf 56 (by decide)
      have r116 : aA.eval (.tmp 116) = .agg #[.int .u64 1, v5_2] := by rw [← hA]; exact putAll_at f 116 56 slotsKn12 a0 sbKn12 (by kernel_rfl) zsz rfl h116
      have h117 : f 57 = .agg (encU sOne).toArray := hf 57 (by decide)
      have r117 : aA.eval (.tmp 117) = .agg (encU sOne).toArray := by rw [← hA]; exact putAll_at f 117 57 slotsKn12 a0 sbKn12 (by kernel_rfl) zsz rfl h117
      exact flw_call rfl ((wanted_of rfl 115 rfl t115).trans rfl) 17 #[(.tmp 116), (.tmp 117)] _ rfl #[.agg #[.int .u64 1, v5_2], .agg (encU sOne).toArray] (by simp only [List.map_toArray, List.map_cons, List.map_nil, r116, r117]) (fun w => by kernel_rfl) (fun v w' => ∃ zz, v = .agg #[.int .u64 1, zz] ∧ Cs w' zz (layT takeC 1 sOne (Z12))) (takeT_any 1 sOne _ _ w1 (by decide) (HL.out.keep (HB.out.trans (hS.mono HB.out.size)) HSZ.out) (by decide) (HU5_2.out.keep hS)) (fun v w' hr hb => ⟨hS.trans (hb.mono hS.size), Flz.of hb, by obtain ⟨zz, a, b⟩ := hr; exact ⟨zz, (updF_self _ _ _).trans a, b⟩⟩)
    · intro f w1 hS hf
      generalize hA : putAll _ _ f = aA
      have g115 : f 55 = .bool true := hf 55 (by decide)
      have t115 : aA.tmps[115]? = some (.bool true) := by rw [← hA]; exact putAll_g f 115 55 slotsKn12 a0 sbKn12 (by kernel_rfl) zsz rfl g115
      obtain ⟨x118, hx118, hr118⟩ := hf 58 (by decide)
      have e118 : aA.eval (.tmp 118) = .agg #[.int .u64 1, x118] := by rw [← hA]; exact putAll_at f 118 58 slotsKn12 a0 sbKn12 (by kernel_rfl) zsz rfl hx118
      exact flw_call rfl ((wanted_of rfl 115 rfl t115).trans rfl) 13 #[(.tmp 118)] _ rfl #[.agg #[.int .u64 1, x118]] (by simp only [List.map_toArray, List.map_cons, List.map_nil, e118]) (fun w => by kernel_rfl) (fun v _ => v = .int .i64 (cntT (layT takeC 1 sOne (Z12)))) (countT_any _ _ _ w1 (by rw [layT_len]; decide) hr118) (fun v w' hr hb => ⟨hS.trans (hb.mono hS.size), Flz.of hb, (updF_self _ _ _).trans hr⟩)
    · intro f w1 hS hf
      generalize hA : putAll _ _ f = aA
      have g115 : f 55 = .bool true := hf 55 (by decide)
      have t115 : aA.tmps[115]? = some (.bool true) := by rw [← hA]; exact putAll_g f 115 55 slotsKn12 a0 sbKn12 (by kernel_rfl) zsz rfl g115
      have h119 : f 59 = .int .i64 (cntT (layT takeC 1 sOne (Z12))) := hf 59 (by decide)
      have r119 : aA.eval (.tmp 119) = .int .i64 (cntT (layT takeC 1 sOne (Z12))) := by rw [← hA]; exact putAll_at f 119 59 slotsKn12 a0 sbKn12 (by kernel_rfl) zsz rfl h119
      exact flw_val rfl ((wanted_of rfl 115 rfl t115).trans rfl) (.bool true) (Eq.trans (ex_int .eql _ _ (.tmp 119) _ rfl .i64 (cntT (layT takeC 1 sOne (Z12))) ((-1)) r119 rfl (.bool ((cntT (layT takeC 1 sOne (Z12))) == ((-1) : Int))) (fun _ => rfl)) (by rw [(show ((cntT (layT takeC 1 sOne (Z12))) == ((-1) : Int)) = true by rw [kn8]; rfl)])) hS (Flz.refl _) (updF_self _ _ _)
    · intro f w1 hS hf
      generalize hA : putAll _ _ f = aA
      have h115 : f 55 = .bool true := hf 55 (by decide)
      have r115 : aA.eval (.tmp 115) = .bool true := by rw [← hA]; exact putAll_at f 115 55 slotsKn12 a0 sbKn12 (by kernel_rfl) zsz rfl h115
      have h120 : f 60 = .bool true := hf 60 (by decide)
      have r120 : aA.eval (.tmp 120) = .bool true := by rw [← hA]; exact putAll_at f 120 60 slotsKn12 a0 sbKn12 (by kernel_rfl) zsz rfl h120
      exact flw_val rfl rfl (.bool true) (ex_pick (.tmp 115) (.tmp 120) _ rfl true r115 ((if_pos rfl).trans r120)) hS (Flz.refl _) (updF_self _ _ _)
    · intro f w1 hS hf
      generalize hA : putAll _ _ f = aA
      have h121 : f 61 = .bool true := hf 61 (by decide)
      have r121 : aA.eval (.tmp 121) = .bool true := by rw [← hA]; exact putAll_at f 121 61 slotsKn12 a0 sbKn12 (by kernel_rfl) zsz rfl h121
      exact flw_val rfl rfl (.bool true) (ex_move (.tmp 121) rfl r121) hS (Flz.refl _) (updF_self _ _ _)
    · intro f w1 hS hf
      generalize hA : putAll _ _ f = aA
      have g122 : f 62 = .bool true := hf 62 (by decide)
      have t122 : aA.tmps[122]? = some (.bool true) := by rw [← hA]; exact putAll_g f 122 62 slotsKn12 a0 sbKn12 (by kernel_rfl) zsz rfl g122
      have r5 : aA.eval (.tmp 5) = .pointer (some ⟨b5_4, 0, none⟩) := by rw [← hA]; exact putAll_off f 5 slotsKn12 a0 (by kernel_rfl) z5
      exact flw_val rfl ((wanted_of rfl 122 rfl t122).trans rfl) (.agg #[.int .u64 1, v5_2]) (ex_loadR 26 (.tmp 5) rfl ⟨b5_4, 0, none⟩ r5 (fun _ => by kernel_rfl) [.int .u64 1, v5_2] (by kernel_rfl) ((HX_b5_4.out.keepB hS).part [.int .u64 1, v5_2] 0 (fun j u hu => by rw [Nat.zero_add]; exact hu))) hS (Flz.refl _) (updF_self _ _ _)
    · intro f w1 hS hf
      generalize hA : putAll _ _ f = aA
      have g122 : f 62 = .bool true := hf 62 (by decide)
      have t122 : aA.tmps[122]? = some (.bool true) := by rw [← hA]; exact putAll_g f 122 62 slotsKn12 a0 sbKn12 (by kernel_rfl) zsz rfl g122
      have h123 : f 63 = .agg #[.int .u64 1, v5_2] := hf 63 (by decide)
      have r123 : aA.eval (.tmp 123) = .agg #[.int .u64 1, v5_2] := by rw [← hA]; exact putAll_at f 123 63 slotsKn12 a0 sbKn12 (by kernel_rfl) zsz rfl h123
      exact flw_call rfl ((wanted_of rfl 122 rfl t122).trans rfl) 12 #[(.tmp 123)] _ rfl #[.agg #[.int .u64 1, v5_2]] (by simp only [List.map_toArray, List.map_cons, List.map_nil, r123]) (fun w => by kernel_rfl) (fun v _ => v = .bool true) (as_any (zeroT_any _ _ _ w1 (by decide) (HU5_2.out.keep hS)) (congrArg Value.bool kn3)) (fun v w' hr hb => ⟨hS.trans (hb.mono hS.size), Flz.of hb, (updF_self _ _ _).trans hr⟩)
    · intro f w1 hS hf
      generalize hA : putAll _ _ f = aA
      have h122 : f 62 = .bool true := hf 62 (by decide)
      have r122 : aA.eval (.tmp 122) = .bool true := by rw [← hA]; exact putAll_at f 122 62 slotsKn12 a0 sbKn12 (by kernel_rfl) zsz rfl h122
      have h124 : f 64 = .bool true := hf 64 (by decide)
      have r124 : aA.eval (.tmp 124) = .bool true := by rw [← hA]; exact putAll_at f 124 64 slotsKn12 a0 sbKn12 (by kernel_rfl) zsz rfl h124
      exact flw_val rfl rfl (.bool true) (ex_pick (.tmp 122) (.tmp 124) _ rfl true r122 ((if_pos rfl).trans r124)) hS (Flz.refl _) (updF_self _ _ _)
    · intro f w1 hS hf
      generalize hA : putAll _ _ f = aA
      have h125 : f 65 = .bool true := hf 65 (by decide)
      have r125 : aA.eval (.tmp 125) = .bool true := by rw [← hA]; exact putAll_at f 125 65 slotsKn12 a0 sbKn12 (by kernel_rfl) zsz rfl h125
      exact flw_val rfl rfl (.bool true) (ex_assign (.tmp 125) rfl r125) hS (Flz.refl _) (updF_self _ _ _)
  intro f u12 hS hf hap
  have h0 : f 0 = .int .i64 1 := hf 0 (by decide)
  have h1 : f 1 = .bool true := hf 1 (by decide)
  have h2 : f 2 = .bool true := hf 2 (by decide)
  have h3 : f 3 = .int .i64 1 := hf 3 (by decide)
  have h4 : f 4 = .bool true := hf 4 (by decide)
  have h5 : f 5 = .bool true := hf 5 (by decide)
  have h6 : f 6 = .bool true := hf 6 (by decide)
  have h7 : f 7 = .int .i64 1 := hf 7 (by decide)
  have h8 : f 8 = .bool true := hf 8 (by decide)
  have h9 : f 9 = .bool true := hf 9 (by decide)
  have h10 : f 10 = .bool true := hf 10 (by decide)
  have h11 : f 11 = .int .i64 1 := hf 11 (by decide)
  have h12 : f 12 = .bool true := hf 12 (by decide)
  have h13 : f 13 = .bool true := hf 13 (by decide)
  have h14 : f 14 = .bool true := hf 14 (by decide)
  have h15 : f 15 = .int .i64 1 := hf 15 (by decide)
  have h16 : f 16 = .bool true := hf 16 (by decide)
  have h17 : f 17 = .bool true := hf 17 (by decide)
  have h18 : f 18 = .bool true := hf 18 (by decide)
  have h19 : f 19 = .agg #[.int .u64 1, v11_1] := hf 19 (by decide)
  have h20 : f 20 = .bool false := hf 20 (by decide)
  have h21 : f 21 = .bool true := hf 21 (by decide)
  have h22 : f 22 = .bool true := hf 22 (by decide)
  have h23 : f 23 = .bool true := hf 23 (by decide)
  have h24 : f 24 = .agg #[.int .u64 1, v5_2] := hf 24 (by decide)
  have h25 : f 25 = .bool true := hf 25 (by decide)
  have h26 : f 26 = .bool true := hf 26 (by decide)
  have h27 : f 27 = .bool true := hf 27 (by decide)
  have h28 : f 28 = .agg #[.int .u64 1, v5_2] := hf 28 (by decide)
  have h29 : f 29 = .bool true := hf 29 (by decide)
  have h30 : f 30 = .bool true := hf 30 (by decide)
  have h31 : f 31 = .bool true := hf 31 (by decide)
  have h32 : f 32 = .agg #[.int .u64 0, .slice none 0 0] := hf 32 (by decide)
  have h33 : f 33 = .bool false := hf 33 (by decide)
  have h34 : f 34 = .bool true := hf 34 (by decide)
  have h35 : f 35 = .bool true := hf 35 (by decide)
  have h36 : f 36 = .bool true := hf 36 (by decide)
  have h37 : f 37 = .agg #[.int .u64 1, v11_1] := hf 37 (by decide)
  have h38 : f 38 = .bool false := hf 38 (by decide)
  have h39 : f 39 = .bool true := hf 39 (by decide)
  have h40 : f 40 = .bool true := hf 40 (by decide)
  have h41 : f 41 = .bool true := hf 41 (by decide)
  have h42 : f 42 = .agg #[.int .u64 1, v11_1] := hf 42 (by decide)
  have h43 : f 43 = .int .i64 (cntT (Z4)) := hf 43 (by decide)
  have h44 : f 44 = .bool true := hf 44 (by decide)
  have h45 : f 45 = .bool true := hf 45 (by decide)
  have h46 : f 46 = .bool true := hf 46 (by decide)
  have h47 : f 47 = .agg #[.int .u64 1, v11_1] := hf 47 (by decide)
  have h48 : f 48 = .agg (encU sOne).toArray := hf 48 (by decide)
  obtain ⟨v12_49, h49, hu49⟩ := hf 49 (by decide)
  have HU12_49 := Lib.hid hu49
  clear hu49
  obtain ⟨v12_50, h50, hu50⟩ := hf 50 (by decide)
  have HU12_50 := Lib.hid hu50
  clear hu50
  have h51 : f 51 = .agg #[.int .u64 1, v11_1] := hf 51 (by decide)
  obtain ⟨v12_52, h52, hu52⟩ := hf 52 (by decide)
  have HU12_52 := Lib.hid hu52
  clear hu52
  have h53 : f 53 = .bool true := hf 53 (by decide)
  have h54 : f 54 = .bool true := hf 54 (by decide)
  have h55 : f 55 = .bool true := hf 55 (by decide)
  have h56 : f 56 = .agg #[.int .u64 1, v5_2] := hf 56 (by decide)
  have h57 : f 57 = .agg (encU sOne).toArray := hf 57 (by decide)
  obtain ⟨v12_58, h58, hu58⟩ := hf 58 (by decide)
  have HU12_58 := Lib.hid hu58
  clear hu58
  have h59 : f 59 = .int .i64 (cntT (layT takeC 1 sOne (Z12))) := hf 59 (by decide)
  have h60 : f 60 = .bool true := hf 60 (by decide)
  have h61 : f 61 = .bool true := hf 61 (by decide)
  have h62 : f 62 = .bool true := hf 62 (by decide)
  have h63 : f 63 = .agg #[.int .u64 1, v5_2] := hf 63 (by decide)
  have h64 : f 64 = .bool true := hf 64 (by decide)
  have h65 : f 65 = .bool true := hf 65 (by decide)
  have h66 : f 66 = .bool true := hf 66 (by decide)
  clear hf hap
  clear zsz z2 z4 z12 z14 z16 z17 z5
  subst ha0
  simp only [slotsKn12, putAll, h0, h1, h2, h3, h4, h5, h6, h7, h8, h9, h10, h11, h12, h13, h14, h15, h16, h17, h18, h19, h20, h21, h22, h23, h24, h25, h26, h27, h28, h29, h30, h31, h32, h33, h34, h35, h36, h37, h38, h39, h40, h41, h42, h43, h44, h45, h46, h47, h48, h49, h50, h51, h52, h53, h54, h55, h56, h57, h58, h59, h60, h61, h62, h63, h64, h65, h66, Act.put, List.setIfInBounds_toArray, List.set_cons_zero, List.set_cons_succ]
  clear h0 h1 h2 h3 h4 h5 h6 h7 h8 h9 h10 h11 h12 h13 h14 h15 h16 h17 h18 h19 h20 h21 h22 h23 h24 h25 h26 h27 h28 h29 h30 h31 h32 h33 h34 h35 h36 h37 h38 h39 h40 h41 h42 h43 h44 h45 h46 h47 h48 h49 h50 h51 h52 h53 h54 h55 h56 h57 h58 h59 h60 h61 h62 h63 h64 h65 h66
  refine tl_nilN ?_
  replace HX_b3_4 := Lib.hid (HX_b3_4.out.keepB hS)
  replace HU3_2 := Lib.hid (HU3_2.out.keep hS)
  replace HX_b4_4 := Lib.hid (HX_b4_4.out.keepB hS)
  replace HU4_2 := Lib.hid (HU4_2.out.keep hS)
  replace HX_b5_4 := Lib.hid (HX_b5_4.out.keepB hS)
  replace HU5_2 := Lib.hid (HU5_2.out.keep hS)
  replace HX_b6_4 := Lib.hid (HX_b6_4.out.keepB hS)
  replace HU6_2 := Lib.hid (HU6_2.out.keep hS)
  replace HX_b7_4 := Lib.hid (HX_b7_4.out.keepB hS)
  replace HU7_2 := Lib.hid (HU7_2.out.keep hS)
  replace HX_b8_6 := Lib.hid (HX_b8_6.out.keepB hS)
  replace HU8_4 := Lib.hid (HU8_4.out.keep hS)
  replace HX_b9_6 := Lib.hid (HX_b9_6.out.keepB hS)
  replace HU9_4 := Lib.hid (HU9_4.out.keep hS)
  replace HX_b10_6 := Lib.hid (HX_b10_6.out.keepB hS)
  replace HU10_4 := Lib.hid (HU10_4.out.keep hS)
  replace HX_b11_2 := Lib.hid (HX_b11_2.out.keepB hS)
  replace HZ4 := Lib.hid (HZ4.out.keep hS)
  replace HB := Lib.hid (HB.out.trans (hS.mono HB.out.size))
  clear hS
  go_wp2_with fail
  go_ret
  exact ⟨⟨_, rfl, rfl⟩, HB.out⟩
theorem tableKnown_any  (w : World) (hL : Laid w) : Calls Tryd.prog 3 #[] w fun e w' => (∃ v, e = .returned v ∧ v = .bool true) ∧ Below w.heap.size w w' := tableKnown_b  w w (Below.refl _ _) hL
theorem tableKnown_one (w : World) (hL : Laid w) : Calls Tryd.prog 3 #[] w fun e w' => e = .returned (.bool true) ∧ Below w.heap.size w w' := Calls.mono (tableKnown_any w hL) fun _ _ ⟨⟨_, h1, h2⟩, h3⟩ => ⟨h2 ▸ h1, h3⟩
end Go.Proofs.YtepeloenijlnhaaDoor
