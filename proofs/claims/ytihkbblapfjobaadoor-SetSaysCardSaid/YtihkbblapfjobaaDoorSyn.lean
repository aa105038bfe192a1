/- SetSays in one of its three cases. Conditions: the sums' tables are laid; what comes in lies in memory. -/
import Derived.Test.YtihkbblapfjobaaDoorSyd
namespace Go.Proofs.YtihkbblapfjobaaDoor
open Go.RowKit
def waitSy8n (i : Nat) : List Nat := ([[], [0], [1]] : List (List Nat)).getD i []
def slotsSy8n : List (Nat × Nat) := [(37, 0), (38, 1), (14, 2)]
theorem sbSy8n : slotsB slotsSy8n = true := by kernel_rfl
theorem chkSy8n : flwO slotsSy8n waitSy8n 3 (regOf Tryd.f8.body 8) = true := by kernel_rfl
def waitSz0n (i : Nat) : List Nat := ([[], [0], [], [0, 2], [0, 1, 2, 3], [0, 1, 2, 3, 4], [5], [5, 6], [0, 1, 2, 3, 4, 5], [0, 1, 2, 3, 4, 5, 6, 7, 8], [0, 1, 2, 3, 4, 5, 6, 8, 9], [0, 1, 2, 3, 4, 5, 6, 7, 8, 9, 10], [11], [11], [11, 12, 13], [0, 1, 2, 3, 4, 5, 6, 7, 8, 9, 10, 11], [0, 1, 2, 3, 4, 5, 6, 7, 8, 9, 10, 11, 12, 13, 15], [16], [0, 1, 2, 3, 4, 5, 6, 7, 8, 9, 10, 12, 13, 15, 16], [0, 1, 2, 3, 4, 5, 6, 7, 8, 9, 10, 12, 13, 15, 16, 17, 18], [0, 1, 2, 3, 4, 5, 6, 7, 8, 9, 10, 11, 12, 13, 15, 16, 17, 18, 19], [0, 1, 2, 3, 4, 5, 6, 7, 8, 9, 10, 11, 12, 13, 14, 15, 16, 17, 18, 20], [0, 1, 2, 3, 4, 5, 6, 7, 8, 9, 10, 11, 12, 13, 14, 15, 16, 17, 18, 20, 21], [0, 1, 2, 3, 4, 5, 6, 7, 8, 9, 10, 11, 12, 13, 14, 15, 16, 17, 18, 19, 20, 21, 22], [], [], [], [], [], [], [], [], [], [], [], [], [], [], [], [], [], [], [], [], [], [], [], [], [], [], [], [], [], [], [], [], [], [], [], [], [], [], [], [], [], [], [], [], [], [], [], [], [], [], [], [], [], [], [], [], [], [], [], [], [], [], [], [], [], [], [], [], [], [], [], [], [], [], [], []] : List (List Nat)).getD i []
def slotsSz0n : List (Nat × Nat) := [(39, 0), (40, 1), (41, 2), (42, 3), (43, 4), (44, 5), (45, 6), (46, 7), (47, 8), (48, 9), (49, 10), (50, 11), (51, 12), (52, 13), (53, 14), (54, 15), (55, 16), (56, 17), (57, 18), (58, 19), (59, 20), (60, 21), (61, 22)]
theorem sbSz0n : slotsB slotsSz0n = true := by kernel_rfl
theorem chkSz0n : stgB slotsSz0n waitSz0n 0 23 (regOf Tryd.f8.body 9) = true := by kernel_rfl
def waitSz23n (i : Nat) : List Nat := ([[], [], [], [], [], [], [], [], [], [], [], [], [], [], [], [], [], [], [], [], [], [], [], [], [23], [23], [23, 24, 25], [23], [23], [23, 24, 25, 27, 28], [23, 24, 25, 26, 27, 28, 29], [23, 24, 25, 26, 27, 28, 30], [23, 24, 25, 26, 27, 28, 29, 30, 31], [], [], [], [], [], [], [], [], [], [], [], [], [], [], [], [], [], [], [], [], [], [], [], [], [], [], [], [], [], [], [], [], [], [], [], [], [], [], [], [], [], [], [], [], [], [], [], [], [], [], [], [], [], [], [], [], [], [], [], [], [], [], [], [], [], [], []] : List (List Nat)).getD i []
def slotsSz23n : List (Nat × Nat) := [(62, 23), (63, 24), (64, 25), (65, 26), (66, 27), (67, 28), (68, 29), (69, 30), (70, 31)]
theorem sbSz23n : slotsB slotsSz23n = true := by kernel_rfl
theorem chkSz23n : stgB slotsSz23n waitSz23n 23 32 (regOf Tryd.f8.body 9) = true := by kernel_rfl
def waitSz32n (i : Nat) : List Nat := ([[], [], [], [], [], [], [], [], [], [], [], [], [], [], [], [], [], [], [], [], [], [], [], [], [], [], [], [], [], [], [], [], [], [32], [32], [32, 33, 34], [32, 33, 34, 35], [32], [32], [32, 33, 34, 35, 36, 37, 38], [32], [32, 40], [32, 33, 34, 35, 36, 37, 38, 39, 40, 41], [], [], [], [], [], [], [], [], [], [], [], [], [], [], [], [], [], [], [], [], [], [], [], [], [], [], [], [], [], [], [], [], [], [], [], [], [], [], [], [], [], [], [], [], [], [], [], [], [], [], [], [], [], [], [], [], []] : List (List Nat)).getD i []
def slotsSz32n : List (Nat × Nat) := [(71, 32), (72, 33), (73, 34), (74, 35), (75, 36), (76, 37), (77, 38), (78, 39), (79, 40), (80, 41)]
theorem sbSz32n : slotsB slotsSz32n = true := by kernel_rfl
theorem chkSz32n : stgB slotsSz32n waitSz32n 32 42 (regOf Tryd.f8.body 9) = true := by kernel_rfl
def waitSz43n (i : Nat) : List Nat := ([[], [], [], [], [], [], [], [], [], [], [], [], [], [], [], [], [], [], [], [], [], [], [], [], [], [], [], [], [], [], [], [], [], [], [], [], [], [], [], [], [], [], [], [], [43], [43, 44], [43, 44, 45], [], [], [], [], [], [], [], [], [], [], [], [], [], [], [], [], [], [], [], [], [], [], [], [], [], [], [], [], [], [], [], [], [], [], [], [], [], [], [], [], [], [], [], [], [], [], [], [], [], [], [], [], []] : List (List Nat)).getD i []
def slotsSz43n : List (Nat × Nat) := [(82, 43), (83, 44), (84, 45)]
theorem sbSz43n : slotsB slotsSz43n = true := by kernel_rfl
theorem chkSz43n : stgB slotsSz43n waitSz43n 43 46 (regOf Tryd.f8.body 9) = true := by kernel_rfl
def waitSz46n (i : Nat) : List Nat := ([[], [], [], [], [], [], [], [], [], [], [], [], [], [], [], [], [], [], [], [], [], [], [], [], [], [], [], [], [], [], [], [], [], [], [], [], [], [], [], [], [], [], [], [], [], [], [], [46], [46], [46, 47, 48], [46, 47, 48, 49], [46], [46], [46, 47, 48, 49, 51, 52], [46, 47, 48, 49, 50, 51, 52, 53], [46, 47, 48, 49, 50, 51, 52, 53, 54], [46, 47, 48, 49, 50, 51, 52, 53, 54, 55], [], [], [], [], [], [], [], [], [], [], [], [], [], [], [], [], [], [], [], [], [], [], [], [], [], [], [], [], [], [], [], [], [], [], [], [], [], [], [], [], [], [], []] : List (List Nat)).getD i []
def slotsSz46n : List (Nat × Nat) := [(85, 46), (86, 47), (87, 48), (88, 49), (89, 50), (90, 51), (91, 52), (92, 53), (93, 54), (94, 55)]
theorem sbSz46n : slotsB slotsSz46n = true := by kernel_rfl
theorem chkSz46n : stgB slotsSz46n waitSz46n 46 56 (regOf Tryd.f8.body 9) = true := by kernel_rfl
def waitSz56n (i : Nat) : List Nat := ([[], [], [], [], [], [], [], [], [], [], [], [], [], [], [], [], [], [], [], [], [], [], [], [], [], [], [], [], [], [], [], [], [], [], [], [], [], [], [], [], [], [], [], [], [], [], [], [], [], [], [], [], [], [], [], [], [], [56], [56], [56, 57, 58], [56, 57, 58, 59], [56], [56], [56, 57, 58, 59, 61, 62], [56, 57, 58, 59, 60, 61, 62, 63], [56, 57, 58, 59, 60, 61, 62, 63, 64], [56, 57, 58, 59, 60, 61, 62, 63, 64, 65], [], [], [], [], [], [], [], [], [], [], [], [], [], [], [], [], [], [], [], [], [], [], [], [], [], [], [], [], [], [], [], [], []] : List (List Nat)).getD i []
def slotsSz56n : List (Nat × Nat) := [(95, 56), (96, 57), (97, 58), (98, 59), (99, 60), (100, 61), (101, 62), (102, 63), (103, 64), (104, 65)]
theorem sbSz56n : slotsB slotsSz56n = true := by kernel_rfl
theorem chkSz56n : stgB slotsSz56n waitSz56n 56 66 (regOf Tryd.f8.body 9) = true := by kernel_rfl
def waitSz66n (i : Nat) : List Nat := ([[], [], [], [], [], [], [], [], [], [], [], [], [], [], [], [], [], [], [], [], [], [], [], [], [], [], [], [], [], [], [], [], [], [], [], [], [], [], [], [], [], [], [], [], [], [], [], [], [], [], [], [], [], [], [], [], [], [], [], [], [], [], [], [], [], [], [], [66], [66], [66, 67, 68], [66, 67, 68, 69], [66], [66], [66, 67, 68, 69, 71, 72], [66, 67, 68, 69, 70, 71, 72, 73], [66, 67, 68, 69, 70, 71, 72, 73, 74], [66, 67, 68, 69, 70, 71, 72, 73, 74, 75], [], [], [], [], [], [], [], [], [], [], [], [], [], [], [], [], [], [], [], [], [], [], []] : List (List Nat)).getD i []
def slotsSz66n : List (Nat × Nat) := [(105, 66), (106, 67), (107, 68), (108, 69), (109, 70), (110, 71), (111, 72), (112, 73), (113, 74), (114, 75)]
theorem sbSz66n : slotsB slotsSz66n = true := by kernel_rfl
theorem chkSz66n : stgB slotsSz66n waitSz66n 66 76 (regOf Tryd.f8.body 9) = true := by kernel_rfl
def waitSz76n (i : Nat) : List Nat := ([[], [], [], [], [], [], [], [], [], [], [], [], [], [], [], [], [], [], [], [], [], [], [], [], [], [], [], [], [], [], [], [], [], [], [], [], [], [], [], [], [], [], [], [], [], [], [], [], [], [], [], [], [], [], [], [], [], [], [], [], [], [], [], [], [], [], [], [], [], [], [], [], [], [], [], [], [], [76], [76], [76, 77, 78], [76], [76, 77, 78, 80], [77, 78, 80, 81], [77, 78, 80, 81, 82], [76, 77, 78, 80, 81, 82, 83], [76, 77, 78, 80, 81, 82, 83, 84], [85], [77, 78, 80, 81, 82, 83, 84, 85], [77, 78, 80, 81, 82, 83, 84, 85, 86, 87], [76, 77, 78, 80, 81, 82, 83, 84, 85, 86, 87, 88], [76, 77, 78, 79, 80, 81, 82, 83, 84, 85, 86, 87, 89], [76, 77, 78, 79, 80, 81, 82, 83, 84, 85, 86, 87, 89, 90], [76, 77, 78, 79, 80, 81, 82, 83, 84, 85, 86, 87, 88, 89, 90, 91], [], [], [], [], [], [], []] : List (List Nat)).getD i []
def slotsSz76n : List (Nat × Nat) := [(115, 76), (116, 77), (117, 78), (118, 79), (119, 80), (120, 81), (121, 82), (122, 83), (123, 84), (124, 85), (125, 86), (126, 87), (127, 88), (128, 89), (129, 90), (130, 91)]
theorem sbSz76n : slotsB slotsSz76n = true := by kernel_rfl
theorem chkSz76n : stgB slotsSz76n waitSz76n 76 92 (regOf Tryd.f8.body 9) = true := by kernel_rfl
def waitSz92n (i : Nat) : List Nat := ([[], [], [], [], [], [], [], [], [], [], [], [], [], [], [], [], [], [], [], [], [], [], [], [], [], [], [], [], [], [], [], [], [], [], [], [], [], [], [], [], [], [], [], [], [], [], [], [], [], [], [], [], [], [], [], [], [], [], [], [], [], [], [], [], [], [], [], [], [], [], [], [], [], [], [], [], [], [], [], [], [], [], [], [], [], [], [], [], [], [], [], [], [], [92], [92, 93], [92], [92, 95], [92, 94, 96], [92, 97], [98]] : List (List Nat)).getD i []
def slotsSz92n : List (Nat × Nat) := [(131, 92), (132, 93), (133, 94), (134, 95), (135, 96), (136, 97), (137, 98), (6, 99)]
theorem sbSz92n : slotsB slotsSz92n = true := by kernel_rfl
theorem chkSz92n : stgB slotsSz92n waitSz92n 92 100 (regOf Tryd.f8.body 9) = true := by kernel_rfl
set_option maxHeartbeats 64000000 in
set_option maxRecDepth 100000 in
theorem setSays_n (A : List Su) (B : List Su) (sx : Su) (qa : Option Addr) (qb : Option Addr) (ca : Nat) (cb : Nat) (w w0 : World) (hB : Below w.heap.size w w0) (hL : Laid w) (ha : Sees w w.heap.size qa (rowU A)) (hb : Sees w w.heap.size qb (rowU B)) (hgA : goodU A = false) : Calls Tryd.prog 8 #[.slice qa A.length ca, .slice qb B.length cb, .agg (encU sx).toArray] w0 fun e w' => (∃ v, e = .returned v ∧ v = .bool true) ∧ Below w.heap.size w w' := by
  have HL := Lib.hid hL
  have HSZ := Lib.hid hL.size
  have HSA := Lib.hid ha
  have HSB := Lib.hid hb
  obtain ⟨na, hna⟩ : ∃ n, A.length = n := ⟨_, rfl⟩
  obtain ⟨nb, hnb⟩ : ∃ n, B.length = n := ⟨_, rfl⟩
  have HNA := Lib.hid hna
  have HNB := Lib.hid hnb
  rw [hna, hnb]
  clear ha hb hna hnb hL
  go_enter Tryd.func8, Tryd.ntmps8
  have HB := Lib.hid hB
  clear hB
  go_upto_region 0 with fail
  refine wp_region_lit ?_
  try simp only [Act.put, List.setIfInBounds_toArray, List.set_cons_zero, List.set_cons_succ]
  refine lp_step rfl (fun K hK => wp_box_row 23 (.tmp 2) rfl (.agg (encU sx).toArray) rfl (hK _ _ ?_))
  try simp only [Act.put, List.setIfInBounds_toArray, List.set_cons_zero, List.set_cons_succ]
  show wpList _ _ _ _ _ (w0.alloc (.cells (encU sx).toArray 23))
  have HST : Hid (Below w0.heap.size w0 (w0.alloc (.cells (encU sx).toArray 23))) := Lib.hid ((Below.refl _ _).alloc (Nat.le_refl _) _)
  have HX1 : Hid (Has (w0.alloc (.cells (encU sx).toArray 23)) w0.heap.size 23 (encU sx)) := Lib.hid (Has.made' _ _ _ _ rfl)
  have HGg1 : Hid (w.heap.size ≤ w0.heap.size) := Lib.hid HB.out.size
  replace HB := Lib.hid (HB.out.trans (HST.out.mono HB.out.size))
  clear HST
  generalize w0.alloc (.cells (encU sx).toArray 23) = w1 at *
  generalize w0.heap.size = g1 at *
  refine lp_pure rfl (ex_assign _ rfl rfl) ?_
  try simp only [Act.put, List.setIfInBounds_toArray, List.set_cons_zero, List.set_cons_succ]
  refine wpList_nil ?_
  go_upto_region 1 with fail
  refine wp_act (fun a0 ha0 => ?_)
  have zsz : a0.tmps.size = 138 := by rw [ha0]; rfl
  refine wp_region_flwo (E := Flz) [] slotsSy1 waitSy1 [Fct.val Flz 0 (.bool true), Fct.val Flz 1 (.bool false)] (fun w' => Below w1.heap.size w1 w') _ 2 0 chkSy1 (by kernel_rfl) (by kernel_rfl) (by kernel_rfl) (by decide) (Below.refl _ _) ?_ ?_
  · refine lt_s (lt_s (lt_0) ?_) ?_
    · intro f w1 hS hf
      generalize hA : putAll _ _ f = aA
      exact flw_call rfl rfl 23 #[] _ rfl #[] (by kernel_rfl) (fun w => by kernel_rfl) (fun v _ => v = .bool true) (as_val (awake10_any w1)) (fun v w' hr hb => ⟨hS.trans (hb.mono hS.size), Flz.of hb, (updF_self _ _ _).trans hr⟩)
    · intro f w1 hS hf
      generalize hA : putAll _ _ f = aA
      have h15 : f 0 = .bool true := hf 0 (by decide)
      have r15 : aA.eval (.tmp 15) = .bool true := by rw [← hA]; exact putAll_at f 15 0 slotsSy1 a0 sbSy1 (by kernel_rfl) zsz rfl h15
      exact flw_val rfl rfl (.bool false) (ex_not _ (.tmp 15) rfl r15) hS (Flz.refl _) (updF_self _ _ _)
  intro f w2 hS hf hap
  have h0 : f 0 = .bool true := hf 0 (by decide)
  have h1 : f 1 = .bool false := hf 1 (by decide)
  clear hf hap
  clear zsz
  subst ha0
  simp only [slotsSy1, putAll, h0, h1, Act.put, List.setIfInBounds_toArray, List.set_cons_zero, List.set_cons_succ]
  clear h0 h1
  refine tl_nil ?_
  replace HX1 := Lib.hid (HX1.out.keepB hS)
  replace HB := Lib.hid (HB.out.trans (hS.mono HB.out.size))
  clear hS
  by_cases h1 : 120 < na
  · have k1 : (120 : Int) < (na : Int) := by omega
    go_wp2_with fail
    go_ret
    first | exact ⟨⟨_, rfl, rfl⟩, HB.out⟩ | exact ⟨rfl, HB.out⟩
  have k1 : ¬ (120 : Int) < (na : Int) := by omega
  by_cases h2 : 120 < nb
  · have k2 : (120 : Int) < (nb : Int) := by omega
    go_wp2_with fail
    go_ret
    first | exact ⟨⟨_, rfl, rfl⟩, HB.out⟩ | exact ⟨rfl, HB.out⟩
  have k2 : ¬ (120 : Int) < (nb : Int) := by omega
  have hA : A.length ≤ 120 := by rw [HNA.out]; omega
  have hBl : B.length ≤ 120 := by rw [HNB.out]; omega
  have HA := Lib.hid hA
  have HlA : Hid (A.length ≤ 10000) := Lib.hid (by omega)
  have HlB : Hid (B.length ≤ 10000) := Lib.hid (by omega)
  have HlS : Hid ((srt A).length ≤ 10000) := Lib.hid (Nat.le_trans (len_srt_le A) (by omega))
  have HlE : Hid ((eitU A [sx]).length ≤ 10000) := Lib.hid (Nat.le_trans (len_eitU A [sx]) (by simp; omega))
  have HlP : Hid ((A ++ [sx]).length ≤ 10000) := Lib.hid (by simp; omega)
  have HlQ : Hid ((srt (A ++ [sx])).length ≤ 10000) := Lib.hid HlE.out
  have HlM : Hid ((minU A B).length ≤ 10000) := Lib.hid (by have h1 := len_minU A B; have h2 := len_srt_le A; omega)
  have HlO : Hid ((botU A B).length ≤ 10000) := Lib.hid (by have h1 := len_botU A B; have h2 := len_srt_le A; omega)
  have HlI : Hid ((eitU A B).length ≤ 10000) := Lib.hid (Nat.le_trans (len_eitU A B) (by omega))
  clear hA hBl
  go_upto_region 5 with fail
  have HST : Hid (Below w2.heap.size w2 w2.drew) := Lib.hid (Below.refl _ _).drew
  replace HX1 := Lib.hid (HX1.out.keepB HST.out)
  replace HB := Lib.hid (HB.out.trans (HST.out.mono HB.out.size))
  clear HST
  refine wp_region_rest (by kernel_rfl) ?_
  refine rest_act (fun a0 ha0 => ?_)
  have zsz : a0.tmps.size = 138 := by rw [ha0]; rfl
  have z0 : a0.eval (.tmp 0) = .slice qa na ca := by rw [ha0]; rfl
  have z1 : a0.eval (.tmp 1) = .slice qb nb cb := by rw [ha0]; rfl
  have z5 : a0.eval (.tmp 5) = .pointer (some ⟨g1, 0, none⟩) := by rw [ha0]; rfl
  refine rest_stage (E := Flz) 0 8 [1, 3, 5] slotsSy5 waitSy5 [Fct.val Flz 0 (.slice qa na ca), Fct.obj 1 (fun v w => UsN w2.drew.heap.size w v (A)) (fun _ _ _ h he => h.flz he), Fct.val Flz 2 (.slice qb nb cb), Fct.obj 3 (fun v w => UsN w2.drew.heap.size w v (B)) (fun _ _ _ h he => h.flz he), Fct.val Flz 4 (.agg (encU sx).toArray), Fct.obj 5 (fun v w => ∃ g, v = .pointer (some ⟨g, 0, none⟩) ∧ w2.drew.heap.size ≤ g ∧ Has w g 24 (encU zS)) (fun _ _ _ ⟨g, a, b, c⟩ he => ⟨g, a, b, c.flz he (by decide)⟩), (⟨([6, 1], fun f _ => f 6 = f 1), fun f f' _ _ h _ hd => (show f' 6 = f' 1 by rw [hd 6 (by simp), hd 1 (by simp)]; exact h)⟩ : Fct Flz), (⟨([7, 3], fun f _ => f 7 = f 3), fun f f' _ _ h _ hd => (show f' 7 = f' 3 by rw [hd 7 (by simp), hd 3 (by simp)]; exact h)⟩ : Fct Flz)] (fun w' => Below w2.drew.heap.size w2.drew w') _ chkSy5 (by kernel_rfl) (by kernel_rfl) ⟨by decide, by decide⟩ (by decide) (Below.refl _ _) ?_ ?_
  · refine lt_t (lt_t (lt_t (lt_t (lt_t (lt_t (lt_t (lt_t (lt_b) ?_) ?_) ?_) ?_) ?_) ?_) ?_) ?_
    · intro f w1 hS hf
      generalize hA : putAll _ _ f = aA
      have r0 : aA.eval (.tmp 0) = .slice qa na ca := by rw [← hA]; exact putAll_off f 0 slotsSy5 a0 (by kernel_rfl) z0
      exact stg_val (by decide) rfl rfl (.slice qa na ca) (ex_move (.tmp 0) rfl r0) hS (Flz.refl _) (updF_self _ _ _)
    · intro f w1 hS hf
      generalize hA : putAll _ _ f = aA
      have h25 : f 0 = .slice qa na ca := hf 0 (by decide) (by decide)
      have r25 : aA.eval (.tmp 25) = .slice qa na ca := by rw [← hA]; exact putAll_at f 25 0 slotsSy5 a0 sbSy5 (by kernel_rfl) zsz rfl h25
      exact stg_callA rfl rfl 24 #[(.tmp 25)] _ rfl #[.slice qa na ca] (by simp only [List.map_toArray, List.map_cons, List.map_nil, r25]) (fun w => by kernel_rfl) (fun v w' => UsN w1.heap.size w' v (A)) (usn_row ⟨HNA.out, (HSA.out.keep (HB.out.trans (hS.mono HB.out.size))).more (Below.size (HB.out.trans (hS.mono HB.out.size)))⟩ HlA.out) (fun v w' hr hb => ⟨hS.trans (hb.mono hS.size), Flz.of hb, (show UsN w2.drew.heap.size w' (updF f 1 v 1) (A) by rw [updF_self]; exact hr.less hS.size), (by
        intro i hi hne hl
        simp only [List.mem_cons, List.not_mem_nil, or_false] at hi
        rcases hi with rfl | rfl | rfl
        · exact absurd rfl hne
        · exact Apt.new (fun k hk => (hl.2 k hk).2) (fun k hk => (hr.2 k hk).1)
        · obtain ⟨g', hl1, _, hl2⟩ := hl
          rw [hl1]
          exact Apt.new (fun k hk => by cases hk; exact hl2.lt) (fun k hk => (hr.2 k hk).1))⟩)
    · intro f w1 hS hf
      generalize hA : putAll _ _ f = aA
      have r1 : aA.eval (.tmp 1) = .slice qb nb cb := by rw [← hA]; exact putAll_off f 1 slotsSy5 a0 (by kernel_rfl) z1
      exact stg_val (by decide) rfl rfl (.slice qb nb cb) (ex_move (.tmp 1) rfl r1) hS (Flz.refl _) (updF_self _ _ _)
    · intro f w1 hS hf
      generalize hA : putAll _ _ f = aA
      have h27 : f 2 = .slice qb nb cb := hf 2 (by decide) (by decide)
      have r27 : aA.eval (.tmp 27) = .slice qb nb cb := by rw [← hA]; exact putAll_at f 27 2 slotsSy5 a0 sbSy5 (by kernel_rfl) zsz rfl h27
      exact stg_callA rfl rfl 24 #[(.tmp 27)] _ rfl #[.slice qb nb cb] (by simp only [List.map_toArray, List.map_cons, List.map_nil, r27]) (fun w => by kernel_rfl) (fun v w' => UsN w1.heap.size w' v (B)) (usn_row ⟨HNB.out, (HSB.out.keep (HB.out.trans (hS.mono HB.out.size))).more (Below.size (HB.out.trans (hS.mono HB.out.size)))⟩ HlB.out) (fun v w' hr hb => ⟨hS.trans (hb.mono hS.size), Flz.of hb, (show UsN w2.drew.heap.size w' (updF f 3 v 3) (B) by rw [updF_self]; exact hr.less hS.size), (by
        intro i hi hne hl
        simp only [List.mem_cons, List.not_mem_nil, or_false] at hi
        rcases hi with rfl | rfl | rfl
        · exact Apt.new (fun k hk => (hl.2 k hk).2) (fun k hk => (hr.2 k hk).1)
        · exact absurd rfl hne
        · obtain ⟨g', hl1, _, hl2⟩ := hl
          rw [hl1]
          exact Apt.new (fun k hk => by cases hk; exact hl2.lt) (fun k hk => (hr.2 k hk).1))⟩)
    · intro f w1 hS hf
      generalize hA : putAll _ _ f = aA
      have r5 : aA.eval (.tmp 5) = .pointer (some ⟨g1, 0, none⟩) := by rw [← hA]; exact putAll_off f 5 slotsSy5 a0 (by kernel_rfl) z5
      exact stg_val (by decide) rfl rfl (.agg (encU sx).toArray) (ex_loadR 23 (.tmp 5) rfl ⟨g1, 0, none⟩ r5 (fun _ => by kernel_rfl) (encU sx) (by rw [encU_len]; kernel_rfl) ((HX1.out.keepB hS).part (encU sx) 0 (encU_all' sx))) hS (Flz.refl _) (updF_self _ _ _)
    · intro f w1 hS hf
      generalize hA : putAll _ _ f = aA
      exact stg_wpA rfl rfl (fun K hK => wp_alloc_row 24 rfl (.agg (encU zS).toArray) (fun w => by kernel_rfl) (hK _ _ (hS.alloc hS.size _) (Flz.al _ _) ⟨_, updF_self _ _ _, hS.size, Has.made' _ _ _ _ rfl⟩ (by
        intro i hi hne hl
        simp only [List.mem_cons, List.not_mem_nil, or_false] at hi
        rcases hi with rfl | rfl | rfl
        · exact Apt.new (fun k hk => (hl.2 k hk).2) (fun k hk => by cases hk; exact Nat.le_refl _)
        · exact Apt.new (fun k hk => (hl.2 k hk).2) (fun k hk => by cases hk; exact Nat.le_refl _)
        · exact absurd rfl hne)))
    · intro f w1 hS hf
      generalize hA : putAll _ _ f = aA
      have hu1 : Us w1 (f 1) (A) := (hf 1 (by decide) (by decide)).1
      have e26 : aA.eval (.tmp 26) = f 1 := by rw [← hA]; exact putAll_at f 26 1 slotsSy5 a0 sbSy5 (by kernel_rfl) zsz rfl rfl
      exact stg_val (by decide) rfl rfl (f 1) (ex_assign (.tmp 26) rfl e26) hS (Flz.refl _) (show updF f 6 (f 1) 6 = updF f 6 (f 1) 1 by rw [updF_self, updF_ne f _ (by decide)])
    · intro f w1 hS hf
      generalize hA : putAll _ _ f = aA
      have hu3 : Us w1 (f 3) (B) := (hf 3 (by decide) (by decide)).1
      have e28 : aA.eval (.tmp 28) = f 3 := by rw [← hA]; exact putAll_at f 28 3 slotsSy5 a0 sbSy5 (by kernel_rfl) zsz rfl rfl
      exact stg_val (by decide) rfl rfl (f 3) (ex_assign (.tmp 28) rfl e28) hS (Flz.refl _) (show updF f 7 (f 3) 7 = updF f 7 (f 3) 3 by rw [updF_self, updF_ne f _ (by decide)])
  intro f u5 hS hf hap
  have h0 : f 0 = .slice qa na ca := hf 0 (by decide) (by decide)
  obtain ⟨v5_1, h1, hu1⟩ : ∃ v, f 1 = v ∧ Us u5 v (A) := ⟨_, rfl, (hf 1 (by decide) (by decide)).1⟩
  have HU5_1 := Lib.hid hu1
  clear hu1
  have h2 : f 2 = .slice qb nb cb := hf 2 (by decide) (by decide)
  obtain ⟨v5_3, h3, hu3⟩ : ∃ v, f 3 = v ∧ Us u5 v (B) := ⟨_, rfl, (hf 3 (by decide) (by decide)).1⟩
  have HU5_3 := Lib.hid hu3
  clear hu3
  have h4 : f 4 = .agg (encU sx).toArray := hf 4 (by decide) (by decide)
  obtain ⟨b5_5, h5, hgb5, hhb5⟩ := hf 5 (by decide) (by decide)
  have h6 : f 6 = v5_1 := Eq.trans (hf 6 (by decide) (by decide)) h1
  have h7 : f 7 = v5_3 := Eq.trans (hf 7 (by decide) (by decide)) h3
  have hna1_5 : blkOf v5_1 ≠ some b5_5 := fun e => by
    have h := hap 1 (by decide) 5 (by decide) (by decide)
    rw [h1, h5] at h
    exact h _ e rfl
  have hna3_5 : blkOf v5_3 ≠ some b5_5 := fun e => by
    have h := hap 3 (by decide) 5 (by decide) (by decide)
    rw [h3, h5] at h
    exact h _ e rfl
  clear hf hap
  clear zsz z0 z1 z5
  subst ha0
  simp only [slotsSy5, putAll, h0, h1, h2, h3, h4, h5, h6, h7, Act.put, List.setIfInBounds_toArray, List.set_cons_zero, List.set_cons_succ]
  clear h0 h1 h2 h3 h4 h5 h6 h7
  refine rest_one (by kernel_rfl) (by kernel_rfl) (by decide) ?_
  refine wpOp_step rfl rfl (fun K hK => wp_store_row 24 (.tmp 9) (.tmp 29) rfl b5_5 (encU sx).toArray rfl rfl 24 (encU zS).toArray hhb5 (by rw [List.size_toArray, encU_len]; kernel_rfl) (by simp only [List.size_toArray, encU_len]) (encU_all _) (hK _ _ ?_))
  clear hK
  have hp : Has (u5.setRow b5_5 (encU sx).toArray) b5_5 24 (encU sx) := hhb5.rowl _
  have hbl : Below w2.drew.heap.size u5 (u5.setRow b5_5 (encU sx).toArray) := below_row (Below.refl _ _) hgb5 _
  have hot : ∀ k, k ≠ b5_5 → (u5.setRow b5_5 (encU sx).toArray).heap[k]? = u5.heap[k]? := fun k hk => setRow_other u5 b5_5 k _ hk
  have HU1 := Lib.hid (HU5_1.out.hot hna1_5 hbl.size hot)
  have HU3 := Lib.hid (HU5_3.out.hot hna3_5 hbl.size hot)
  clear HU5_1 HU5_3
  have HU5_1 := HU1
  have HU5_3 := HU3
  clear HU1 HU3
  replace hS := hS.trans hbl
  have HGX : Hid (w.heap.size ≤ b5_5) := Lib.hid (Nat.le_trans HB.out.size hgb5)
  have HX_b5_5 := Lib.hid hp
  clear hp hbl hot hgb5 hhb5 hna1_5 hna3_5 HGX
  generalize u5.setRow b5_5 (encU sx).toArray = w5 at *
  simp only [Act.put]
  refine rest_nilN (by kernel_rfl) ?_
  replace HX1 := Lib.hid (HX1.out.keepB hS)
  replace HB := Lib.hid (HB.out.trans (hS.mono HB.out.size))
  clear hS
  go_upto_region 6 with fail
  have HST : Hid (Below w5.heap.size w5 w5.drew) := Lib.hid (Below.refl _ _).drew
  replace HX1 := Lib.hid (HX1.out.keepB HST.out)
  replace HU5_1 := Lib.hid (HU5_1.out.keep HST.out)
  replace HU5_3 := Lib.hid (HU5_3.out.keep HST.out)
  replace HX_b5_5 := Lib.hid (HX_b5_5.out.keepB HST.out)
  replace HB := Lib.hid (HB.out.trans (HST.out.mono HB.out.size))
  clear HST
  refine wp_region_rest (by kernel_rfl) ?_
  refine rest_act (fun a0 ha0 => ?_)
  have zsz : a0.tmps.size = 138 := by rw [ha0]; rfl
  have z7 : a0.eval (.tmp 7) = v5_1 := by rw [ha0]; rfl
  have z8 : a0.eval (.tmp 8) = v5_3 := by rw [ha0]; rfl
  have z5 : a0.eval (.tmp 5) = .pointer (some ⟨g1, 0, none⟩) := by rw [ha0]; rfl
  refine rest_stage (E := Flz) 0 8 [1, 3, 5] slotsSy6 waitSy6 [Fct.val Flz 0 (v5_1), Fct.obj 1 (fun v w => UsN w5.drew.heap.size w v (A)) (fun _ _ _ h he => h.flz he), Fct.val Flz 2 (v5_3), Fct.obj 3 (fun v w => UsN w5.drew.heap.size w v (B)) (fun _ _ _ h he => h.flz he), Fct.val Flz 4 (.agg (encU sx).toArray), Fct.obj 5 (fun v w => ∃ g, v = .pointer (some ⟨g, 0, none⟩) ∧ w5.drew.heap.size ≤ g ∧ Has w g 35 (encU zS)) (fun _ _ _ ⟨g, a, b, c⟩ he => ⟨g, a, b, c.flz he (by decide)⟩), (⟨([6, 1], fun f _ => f 6 = f 1), fun f f' _ _ h _ hd => (show f' 6 = f' 1 by rw [hd 6 (by simp), hd 1 (by simp)]; exact h)⟩ : Fct Flz), (⟨([7, 3], fun f _ => f 7 = f 3), fun f f' _ _ h _ hd => (show f' 7 = f' 3 by rw [hd 7 (by simp), hd 3 (by simp)]; exact h)⟩ : Fct Flz)] (fun w' => Below w5.drew.heap.size w5.drew w') _ chkSy6 (by kernel_rfl) (by kernel_rfl) ⟨by decide, by decide⟩ (by decide) (Below.refl _ _) ?_ ?_
  · refine lt_t (lt_t (lt_t (lt_t (lt_t (lt_t (lt_t (lt_t (lt_b) ?_) ?_) ?_) ?_) ?_) ?_) ?_) ?_
    · intro f w1 hS hf
      generalize hA : putAll _ _ f = aA
      have r7 : aA.eval (.tmp 7) = v5_1 := by rw [← hA]; exact putAll_off f 7 slotsSy6 a0 (by kernel_rfl) z7
      exact stg_val (by decide) rfl rfl (v5_1) (ex_move (.tmp 7) rfl r7) hS (Flz.refl _) (updF_self _ _ _)
    · intro f w1 hS hf
      generalize hA : putAll _ _ f = aA
      have h30 : f 0 = v5_1 := hf 0 (by decide) (by decide)
      have r30 : aA.eval (.tmp 30) = v5_1 := by rw [← hA]; exact putAll_at f 30 0 slotsSy6 a0 sbSy6 (by kernel_rfl) zsz rfl h30
      exact stg_callA rfl rfl 25 #[(.tmp 30)] _ rfl #[v5_1] (by simp only [List.map_toArray, List.map_cons, List.map_nil, r30]) (fun w => by kernel_rfl) (fun v w' => UsN w1.heap.size w' v (A)) (usn_own (HU5_1.out.keep hS) HlA.out) (fun v w' hr hb => ⟨hS.trans (hb.mono hS.size), Flz.of hb, (show UsN w5.drew.heap.size w' (updF f 1 v 1) (A) by rw [updF_self]; exact hr.less hS.size), (by
        intro i hi hne hl
        simp only [List.mem_cons, List.not_mem_nil, or_false] at hi
        rcases hi with rfl | rfl | rfl
        · exact absurd rfl hne
        · exact Apt.new (fun k hk => (hl.2 k hk).2) (fun k hk => (hr.2 k hk).1)
        · obtain ⟨g', hl1, _, hl2⟩ := hl
          rw [hl1]
          exact Apt.new (fun k hk => by cases hk; exact hl2.lt) (fun k hk => (hr.2 k hk).1))⟩)
    · intro f w1 hS hf
      generalize hA : putAll _ _ f = aA
      have r8 : aA.eval (.tmp 8) = v5_3 := by rw [← hA]; exact putAll_off f 8 slotsSy6 a0 (by kernel_rfl) z8
      exact stg_val (by decide) rfl rfl (v5_3) (ex_move (.tmp 8) rfl r8) hS (Flz.refl _) (updF_self _ _ _)
    · intro f w1 hS hf
      generalize hA : putAll _ _ f = aA
      have h32 : f 2 = v5_3 := hf 2 (by decide) (by decide)
      have r32 : aA.eval (.tmp 32) = v5_3 := by rw [← hA]; exact putAll_at f 32 2 slotsSy6 a0 sbSy6 (by kernel_rfl) zsz rfl h32
      exact stg_callA rfl rfl 25 #[(.tmp 32)] _ rfl #[v5_3] (by simp only [List.map_toArray, List.map_cons, List.map_nil, r32]) (fun w => by kernel_rfl) (fun v w' => UsN w1.heap.size w' v (B)) (usn_own (HU5_3.out.keep hS) HlB.out) (fun v w' hr hb => ⟨hS.trans (hb.mono hS.size), Flz.of hb, (show UsN w5.drew.heap.size w' (updF f 3 v 3) (B) by rw [updF_self]; exact hr.less hS.size), (by
        intro i hi hne hl
        simp only [List.mem_cons, List.not_mem_nil, or_false] at hi
        rcases hi with rfl | rfl | rfl
        · exact Apt.new (fun k hk => (hl.2 k hk).2) (fun k hk => (hr.2 k hk).1)
        · exact absurd rfl hne
        · obtain ⟨g', hl1, _, hl2⟩ := hl
          rw [hl1]
          exact Apt.new (fun k hk => by cases hk; exact hl2.lt) (fun k hk => (hr.2 k hk).1))⟩)
    · intro f w1 hS hf
      generalize hA : putAll _ _ f = aA
      have r5 : aA.eval (.tmp 5) = .pointer (some ⟨g1, 0, none⟩) := by rw [← hA]; exact putAll_off f 5 slotsSy6 a0 (by kernel_rfl) z5
      exact stg_val (by decide) rfl rfl (.agg (encU sx).toArray) (ex_loadR 23 (.tmp 5) rfl ⟨g1, 0, none⟩ r5 (fun _ => by kernel_rfl) (encU sx) (by rw [encU_len]; kernel_rfl) ((HX1.out.keepB hS).part (encU sx) 0 (encU_all' sx))) hS (Flz.refl _) (updF_self _ _ _)
    · intro f w1 hS hf
      generalize hA : putAll _ _ f = aA
      exact stg_wpA rfl rfl (fun K hK => wp_alloc_row 35 rfl (.agg (encU zS).toArray) (fun w => by kernel_rfl) (hK _ _ (hS.alloc hS.size _) (Flz.al _ _) ⟨_, updF_self _ _ _, hS.size, Has.made' _ _ _ _ rfl⟩ (by
        intro i hi hne hl
        simp only [List.mem_cons, List.not_mem_nil, or_false] at hi
        rcases hi with rfl | rfl | rfl
        · exact Apt.new (fun k hk => (hl.2 k hk).2) (fun k hk => by cases hk; exact Nat.le_refl _)
        · exact Apt.new (fun k hk => (hl.2 k hk).2) (fun k hk => by cases hk; exact Nat.le_refl _)
        · exact absurd rfl hne)))
    · intro f w1 hS hf
      generalize hA : putAll _ _ f = aA
      have hu1 : Us w1 (f 1) (A) := (hf 1 (by decide) (by decide)).1
      have e31 : aA.eval (.tmp 31) = f 1 := by rw [← hA]; exact putAll_at f 31 1 slotsSy6 a0 sbSy6 (by kernel_rfl) zsz rfl rfl
      exact stg_val (by decide) rfl rfl (f 1) (ex_assign (.tmp 31) rfl e31) hS (Flz.refl _) (show updF f 6 (f 1) 6 = updF f 6 (f 1) 1 by rw [updF_self, updF_ne f _ (by decide)])
    · intro f w1 hS hf
      generalize hA : putAll _ _ f = aA
      have hu3 : Us w1 (f 3) (B) := (hf 3 (by decide) (by decide)).1
      have e33 : aA.eval (.tmp 33) = f 3 := by rw [← hA]; exact putAll_at f 33 3 slotsSy6 a0 sbSy6 (by kernel_rfl) zsz rfl rfl
      exact stg_val (by decide) rfl rfl (f 3) (ex_assign (.tmp 33) rfl e33) hS (Flz.refl _) (show updF f 7 (f 3) 7 = updF f 7 (f 3) 3 by rw [updF_self, updF_ne f _ (by decide)])
  intro f u6 hS hf hap
  have h0 : f 0 = v5_1 := hf 0 (by decide) (by decide)
  obtain ⟨v6_1, h1, hu1⟩ : ∃ v, f 1 = v ∧ Us u6 v (A) := ⟨_, rfl, (hf 1 (by decide) (by decide)).1⟩
  have HU6_1 := Lib.hid hu1
  clear hu1
  have h2 : f 2 = v5_3 := hf 2 (by decide) (by decide)
  obtain ⟨v6_3, h3, hu3⟩ : ∃ v, f 3 = v ∧ Us u6 v (B) := ⟨_, rfl, (hf 3 (by decide) (by decide)).1⟩
  have HU6_3 := Lib.hid hu3
  clear hu3
  have h4 : f 4 = .agg (encU sx).toArray := hf 4 (by decide) (by decide)
  obtain ⟨b6_5, h5, hgb5, hhb5⟩ := hf 5 (by decide) (by decide)
  have h6 : f 6 = v6_1 := Eq.trans (hf 6 (by decide) (by decide)) h1
  have h7 : f 7 = v6_3 := Eq.trans (hf 7 (by decide) (by decide)) h3
  have hna1_5 : blkOf v6_1 ≠ some b6_5 := fun e => by
    have h := hap 1 (by decide) 5 (by decide) (by decide)
    rw [h1, h5] at h
    exact h _ e rfl
  have hna3_5 : blkOf v6_3 ≠ some b6_5 := fun e => by
    have h := hap 3 (by decide) 5 (by decide) (by decide)
    rw [h3, h5] at h
    exact h _ e rfl
  clear hf hap
  clear zsz z7 z8 z5
  subst ha0
  simp only [slotsSy6, putAll, h0, h1, h2, h3, h4, h5, h6, h7, Act.put, List.setIfInBounds_toArray, List.set_cons_zero, List.set_cons_succ]
  clear h0 h1 h2 h3 h4 h5 h6 h7
  refine rest_one (by kernel_rfl) (by kernel_rfl) (by decide) ?_
  refine wpOp_step rfl rfl (fun K hK => wp_store_row 35 (.tmp 12) (.tmp 34) rfl b6_5 (encU sx).toArray rfl rfl 35 (encU zS).toArray hhb5 (by rw [List.size_toArray, encU_len]; kernel_rfl) (by simp only [List.size_toArray, encU_len]) (encU_all _) (hK _ _ ?_))
  clear hK
  have hp : Has (u6.setRow b6_5 (encU sx).toArray) b6_5 35 (encU sx) := hhb5.rowl _
  have hbl : Below w5.drew.heap.size u6 (u6.setRow b6_5 (encU sx).toArray) := below_row (Below.refl _ _) hgb5 _
  have hot : ∀ k, k ≠ b6_5 → (u6.setRow b6_5 (encU sx).toArray).heap[k]? = u6.heap[k]? := fun k hk => setRow_other u6 b6_5 k _ hk
  have HU1 := Lib.hid (HU6_1.out.hot hna1_5 hbl.size hot)
  have HU3 := Lib.hid (HU6_3.out.hot hna3_5 hbl.size hot)
  clear HU6_1 HU6_3
  have HU6_1 := HU1
  have HU6_3 := HU3
  clear HU1 HU3
  replace hS := hS.trans hbl
  have HGX : Hid (w.heap.size ≤ b6_5) := Lib.hid (Nat.le_trans HB.out.size hgb5)
  have HX_b6_5 := Lib.hid hp
  clear hp hbl hot hgb5 hhb5 hna1_5 hna3_5 HGX
  generalize u6.setRow b6_5 (encU sx).toArray = w6 at *
  simp only [Act.put]
  refine rest_nilN (by kernel_rfl) ?_
  replace HX1 := Lib.hid (HX1.out.keepB hS)
  replace HU5_1 := Lib.hid (HU5_1.out.keep hS)
  replace HU5_3 := Lib.hid (HU5_3.out.keep hS)
  replace HX_b5_5 := Lib.hid (HX_b5_5.out.keepB hS)
  replace HB := Lib.hid (HB.out.trans (hS.mono HB.out.size))
  clear hS
  go_upto_region 7 with fail
  refine wp_act (fun a0 ha0 => ?_)
  have zsz : a0.tmps.size = 138 := by rw [ha0]; rfl
  have z7 : a0.eval (.tmp 7) = v5_1 := by rw [ha0]; rfl
  refine wp_region_flwo (E := Flz) [] slotsSy7 waitSy7 [Fct.val Flz 0 (v5_1), Fct.obj 1 (fun v w => Us w v (srt A)) (fun _ _ _ h he => h.flz he), (⟨([2, 1], fun f _ => f 2 = f 1), fun f f' _ _ h _ hd => (show f' 2 = f' 1 by rw [hd 2 (by simp), hd 1 (by simp)]; exact h)⟩ : Fct Flz)] (fun w' => Below w6.heap.size w6 w') _ 3 0 chkSy7 (by kernel_rfl) (by kernel_rfl) (by kernel_rfl) (by decide) (Below.refl _ _) ?_ ?_
  · refine lt_s (lt_s (lt_s (lt_0) ?_) ?_) ?_
    · intro f w1 hS hf
      generalize hA : putAll _ _ f = aA
      have r7 : aA.eval (.tmp 7) = v5_1 := by rw [← hA]; exact putAll_off f 7 slotsSy7 a0 (by kernel_rfl) z7
      exact flw_val rfl rfl (v5_1) (ex_move (.tmp 7) rfl r7) hS (Flz.refl _) (updF_self _ _ _)
    · intro f w1 hS hf
      generalize hA : putAll _ _ f = aA
      have h35 : f 0 = v5_1 := hf 0 (by decide)
      have r35 : aA.eval (.tmp 35) = v5_1 := by rw [← hA]; exact putAll_at f 35 0 slotsSy7 a0 sbSy7 (by kernel_rfl) zsz rfl h35
      exact flw_call rfl rfl 26 #[(.tmp 35)] _ rfl #[v5_1] (by simp only [List.map_toArray, List.map_cons, List.map_nil, r35]) (fun w => by kernel_rfl) (fun v w' => Us w' v (srt A)) (us_of (HU5_1.out.keep hS) HlA.out) (fun v w' hr hb => ⟨hS.trans (hb.mono hS.size), Flz.of hb, (show Us w' (updF f 1 v 1) (srt A) by rw [updF_self]; exact hr)⟩)
    · intro f w1 hS hf
      generalize hA : putAll _ _ f = aA
      have hu1 : Us w1 (f 1) (srt A) := (hf 1 (by decide))
      have e36 : aA.eval (.tmp 36) = f 1 := by rw [← hA]; exact putAll_at f 36 1 slotsSy7 a0 sbSy7 (by kernel_rfl) zsz rfl rfl
      exact flw_val rfl rfl (f 1) (ex_assign (.tmp 36) rfl e36) hS (Flz.refl _) (show updF f 2 (f 1) 2 = updF f 2 (f 1) 1 by rw [updF_self, updF_ne f _ (by decide)])
  intro f w7 hS hf hap
  have h0 : f 0 = v5_1 := hf 0 (by decide)
  obtain ⟨v7_1, h1, hu1⟩ : ∃ v, f 1 = v ∧ Us w7 v (srt A) := ⟨_, rfl, (hf 1 (by decide))⟩
  have HU7_1 := Lib.hid hu1
  clear hu1
  have h2 : f 2 = v7_1 := Eq.trans (hf 2 (by decide)) h1
  clear hf hap
  clear zsz z7
  subst ha0
  simp only [slotsSy7, putAll, h0, h1, h2, Act.put, List.setIfInBounds_toArray, List.set_cons_zero, List.set_cons_succ]
  clear h0 h1 h2
  refine tl_nil ?_
  replace HX1 := Lib.hid (HX1.out.keepB hS)
  replace HU5_1 := Lib.hid (HU5_1.out.keep hS)
  replace HU5_3 := Lib.hid (HU5_3.out.keep hS)
  replace HX_b5_5 := Lib.hid (HX_b5_5.out.keepB hS)
  replace HU6_1 := Lib.hid (HU6_1.out.keep hS)
  replace HU6_3 := Lib.hid (HU6_3.out.keep hS)
  replace HX_b6_5 := Lib.hid (HX_b6_5.out.keepB hS)
  replace HB := Lib.hid (HB.out.trans (hS.mono HB.out.size))
  clear hS
  go_upto_region 8 with fail
  refine wp_act (fun a0 ha0 => ?_)
  have zsz : a0.tmps.size = 138 := by rw [ha0]; rfl
  have z10 : a0.eval (.tmp 10) = v6_1 := by rw [ha0]; rfl
  refine wp_region_flwo (E := Flz) [] slotsSy8n waitSy8n [Fct.val Flz 0 (v6_1), Fct.val Flz 1 (.bool false), Fct.val Flz 2 (.bool false)] (fun w' => Below w7.heap.size w7 w') _ 3 0 chkSy8n (by kernel_rfl) (by kernel_rfl) (by kernel_rfl) (by decide) (Below.refl _ _) ?_ ?_
  · refine lt_s (lt_s (lt_s (lt_0) ?_) ?_) ?_
    · intro f w1 hS hf
      generalize hA : putAll _ _ f = aA
      have r10 : aA.eval (.tmp 10) = v6_1 := by rw [← hA]; exact putAll_off f 10 slotsSy8n a0 (by kernel_rfl) z10
      exact flw_val rfl rfl (v6_1) (ex_move (.tmp 10) rfl r10) hS (Flz.refl _) (updF_self _ _ _)
    · intro f w1 hS hf
      generalize hA : putAll _ _ f = aA
      have h37 : f 0 = v6_1 := hf 0 (by decide)
      have r37 : aA.eval (.tmp 37) = v6_1 := by rw [← hA]; exact putAll_at f 37 0 slotsSy8n a0 sbSy8n (by kernel_rfl) zsz rfl h37
      exact flw_call rfl rfl 27 #[(.tmp 37)] _ rfl #[v6_1] (by simp only [List.map_toArray, List.map_cons, List.map_nil, r37]) (fun w => by kernel_rfl) (fun v _ => v = .bool false) (as_anyU (us_rgood (HU6_1.out.keep hS) HlA.out) (congrArg Value.bool hgA)) (fun v w' hr hb => ⟨hS.trans (hb.mono hS.size), Flz.of hb, (updF_self _ _ _).trans hr⟩)
    · intro f w1 hS hf
      generalize hA : putAll _ _ f = aA
      have h38 : f 1 = .bool false := hf 1 (by decide)
      have r38 : aA.eval (.tmp 38) = .bool false := by rw [← hA]; exact putAll_at f 38 1 slotsSy8n a0 sbSy8n (by kernel_rfl) zsz rfl h38
      exact flw_val rfl rfl (.bool false) (ex_assign (.tmp 38) rfl r38) hS (Flz.refl _) (updF_self _ _ _)
  intro f w8 hS hf hap
  have h0 : f 0 = v6_1 := hf 0 (by decide)
  have h1 : f 1 = .bool false := hf 1 (by decide)
  have h2 : f 2 = .bool false := hf 2 (by decide)
  clear hf hap
  clear zsz z10
  subst ha0
  simp only [slotsSy8n, putAll, h0, h1, h2, Act.put, List.setIfInBounds_toArray, List.set_cons_zero, List.set_cons_succ]
  clear h0 h1 h2
  refine tl_nil ?_
  replace HX1 := Lib.hid (HX1.out.keepB hS)
  replace HU5_1 := Lib.hid (HU5_1.out.keep hS)
  replace HU5_3 := Lib.hid (HU5_3.out.keep hS)
  replace HX_b5_5 := Lib.hid (HX_b5_5.out.keepB hS)
  replace HU6_1 := Lib.hid (HU6_1.out.keep hS)
  replace HU6_3 := Lib.hid (HU6_3.out.keep hS)
  replace HX_b6_5 := Lib.hid (HX_b6_5.out.keepB hS)
  replace HU7_1 := Lib.hid (HU7_1.out.keep hS)
  replace HB := Lib.hid (HB.out.trans (hS.mono HB.out.size))
  clear hS
  go_upto_region 9 with fail
  try simp only [List.append_eq, List.cons_append, List.nil_append]
  have HST : Hid (Below w8.heap.size w8 w8.drew) := Lib.hid (Below.refl _ _).drew
  replace HX1 := Lib.hid (HX1.out.keepB HST.out)
  replace HU5_1 := Lib.hid (HU5_1.out.keep HST.out)
  replace HU5_3 := Lib.hid (HU5_3.out.keep HST.out)
  replace HX_b5_5 := Lib.hid (HX_b5_5.out.keepB HST.out)
  replace HU6_1 := Lib.hid (HU6_1.out.keep HST.out)
  replace HU6_3 := Lib.hid (HU6_3.out.keep HST.out)
  replace HX_b6_5 := Lib.hid (HX_b6_5.out.keepB HST.out)
  replace HU7_1 := Lib.hid (HU7_1.out.keep HST.out)
  replace HB := Lib.hid (HB.out.trans (HST.out.mono HB.out.size))
  clear HST
  refine wp_region_rest (by kernel_rfl) ?_
  refine rest_act (fun a0 ha0 => ?_)
  have zsz : a0.tmps.size = 138 := by rw [ha0]; rfl
  have z13 : a0.eval (.tmp 13) = v7_1 := by rw [ha0]; rfl
  have z10 : a0.eval (.tmp 10) = v6_1 := by rw [ha0]; rfl
  have z7 : a0.eval (.tmp 7) = v5_1 := by rw [ha0]; rfl
  have z14 : a0.eval (.tmp 14) = .bool false := by rw [ha0]; rfl
  have z9 : a0.eval (.tmp 9) = .pointer (some ⟨b5_5, 0, none⟩) := by rw [ha0]; rfl
  refine rest_stage (E := Flz) 0 23 [] slotsSz0n waitSz0n [Fct.val Flz 0 (v7_1), Fct.obj 1 (fun v w => Us w v (srt A)) (fun _ _ _ h he => h.flz he), Fct.val Flz 2 (v6_1), Fct.obj 3 (fun v w => Us w v (srt A)) (fun _ _ _ h he => h.flz he), Fct.val Flz 4 (.bool true), Fct.val Flz 5 (.bool true), Fct.val Flz 6 (v5_1), Fct.val Flz 7 (.bool false), Fct.val Flz 8 (.bool false), Fct.val Flz 9 (.bool true), Fct.val Flz 10 (.bool true), Fct.val Flz 11 (.bool true), Fct.val Flz 12 (v5_1), Fct.val Flz 13 (.agg (encU sx).toArray), Fct.val Flz 14 (.bool false), Fct.val Flz 15 (.bool false), Fct.val Flz 16 (.bool false), Fct.val Flz 17 (undef), Fct.val Flz 18 (undef), Fct.val Flz 19 (undef), Fct.val Flz 20 (.bool false), Fct.val Flz 21 (.bool true), Fct.val Flz 22 (.bool true)] (fun w' => Below w8.drew.heap.size w8.drew w') _ chkSz0n (by kernel_rfl) (by kernel_rfl) ⟨by decide, by decide⟩ (by decide) (Below.refl _ _) ?_ ?_
  · refine lt_t (lt_t (lt_t (lt_t (lt_t (lt_t (lt_t (lt_t (lt_t (lt_t (lt_t (lt_t (lt_t (lt_t (lt_t (lt_t (lt_t (lt_t (lt_t (lt_t (lt_t (lt_t (lt_t (lt_b) ?_) ?_) ?_) ?_) ?_) ?_) ?_) ?_) ?_) ?_) ?_) ?_) ?_) ?_) ?_) ?_) ?_) ?_) ?_) ?_) ?_) ?_) ?_
    · intro f w1 hS hf
      generalize hA : putAll _ _ f = aA
      have r13 : aA.eval (.tmp 13) = v7_1 := by rw [← hA]; exact putAll_off f 13 slotsSz0n a0 (by kernel_rfl) z13
      exact stg_val (by decide) rfl rfl (v7_1) (ex_move (.tmp 13) rfl r13) hS (Flz.refl _) (updF_self _ _ _)
    · intro f w1 hS hf
      generalize hA : putAll _ _ f = aA
      have h39 : f 0 = v7_1 := hf 0 (by decide) (by decide)
      have r39 : aA.eval (.tmp 39) = v7_1 := by rw [← hA]; exact putAll_at f 39 0 slotsSz0n a0 sbSz0n (by kernel_rfl) zsz rfl h39
      exact stg_call (by decide) rfl rfl 25 #[(.tmp 39)] _ rfl #[v7_1] (by simp only [List.map_toArray, List.map_cons, List.map_nil, r39]) (fun w => by kernel_rfl) (fun v w' => Us w' v (srt A)) (us_own (HU7_1.out.keep hS) HlS.out) (fun v w' hr hb => ⟨hS.trans (hb.mono hS.size), Flz.of hb, (show Us w' (updF f 1 v 1) (srt A) by rw [updF_self]; exact hr)⟩)
    · intro f w1 hS hf
      generalize hA : putAll _ _ f = aA
      have r10 : aA.eval (.tmp 10) = v6_1 := by rw [← hA]; exact putAll_off f 10 slotsSz0n a0 (by kernel_rfl) z10
      exact stg_val (by decide) rfl rfl (v6_1) (ex_move (.tmp 10) rfl r10) hS (Flz.refl _) (updF_self _ _ _)
    · intro f w1 hS hf
      generalize hA : putAll _ _ f = aA
      have h41 : f 2 = v6_1 := hf 2 (by decide) (by decide)
      have r41 : aA.eval (.tmp 41) = v6_1 := by rw [← hA]; exact putAll_at f 41 2 slotsSz0n a0 sbSz0n (by kernel_rfl) zsz rfl h41
      exact stg_call (by decide) rfl rfl 29 #[(.tmp 41)] _ rfl #[v6_1] (by simp only [List.map_toArray, List.map_cons, List.map_nil, r41]) (fun w => by kernel_rfl) (fun v w' => Us w' v (srt A)) (us_rof (HU6_1.out.keep hS) HlA.out) (fun v w' hr hb => ⟨hS.trans (hb.mono hS.size), Flz.of hb, (show Us w' (updF f 3 v 3) (srt A) by rw [updF_self]; exact hr)⟩)
    · intro f w1 hS hf
      generalize hA : putAll _ _ f = aA
      have hu1 : Us w1 (f 1) (srt A) := (hf 1 (by decide) (by decide))
      have e40 : aA.eval (.tmp 40) = f 1 := by rw [← hA]; exact putAll_at f 40 1 slotsSz0n a0 sbSz0n (by kernel_rfl) zsz rfl rfl
      have hu3 : Us w1 (f 3) (srt A) := (hf 3 (by decide) (by decide))
      have e42 : aA.eval (.tmp 42) = f 3 := by rw [← hA]; exact putAll_at f 42 3 slotsSz0n a0 sbSz0n (by kernel_rfl) zsz rfl rfl
      exact stg_call (by decide) rfl rfl 28 #[(.tmp 40), (.tmp 42)] _ rfl #[f 1, f 3] (by simp only [List.map_toArray, List.map_cons, List.map_nil, e40, e42]) (fun w => by kernel_rfl) (fun v _ => v = .bool true) (as_anyU (us_rsame hu1 hu3 HlS.out HlS.out) (congrArg Value.bool (decide_eq_true (rfl : srt A = srt A)))) (fun v w' hr hb => ⟨hS.trans (hb.mono hS.size), Flz.of hb, (updF_self _ _ _).trans hr⟩)
    · intro f w1 hS hf
      generalize hA : putAll _ _ f = aA
      have h43 : f 4 = .bool true := hf 4 (by decide) (by decide)
      have r43 : aA.eval (.tmp 43) = .bool true := by rw [← hA]; exact putAll_at f 43 4 slotsSz0n a0 sbSz0n (by kernel_rfl) zsz rfl h43
      exact stg_val (by decide) rfl rfl (.bool true) (ex_move (.tmp 43) rfl r43) hS (Flz.refl _) (updF_self _ _ _)
    · intro f w1 hS hf
      generalize hA : putAll _ _ f = aA
      have g44 : f 5 = .bool true := hf 5 (by decide) (by decide)
      have t44 : aA.tmps[44]? = some (.bool true) := by rw [← hA]; exact putAll_g f 44 5 slotsSz0n a0 sbSz0n (by kernel_rfl) zsz rfl g44
      have r7 : aA.eval (.tmp 7) = v5_1 := by rw [← hA]; exact putAll_off f 7 slotsSz0n a0 (by kernel_rfl) z7
      exact stg_val (by decide) rfl ((wanted_of rfl 44 rfl t44).trans rfl) (v5_1) (ex_move (.tmp 7) rfl r7) hS (Flz.refl _) (updF_self _ _ _)
    · intro f w1 hS hf
      generalize hA : putAll _ _ f = aA
      have g44 : f 5 = .bool true := hf 5 (by decide) (by decide)
      have t44 : aA.tmps[44]? = some (.bool true) := by rw [← hA]; exact putAll_g f 44 5 slotsSz0n a0 sbSz0n (by kernel_rfl) zsz rfl g44
      have h45 : f 6 = v5_1 := hf 6 (by decide) (by decide)
      have r45 : aA.eval (.tmp 45) = v5_1 := by rw [← hA]; exact putAll_at f 45 6 slotsSz0n a0 sbSz0n (by kernel_rfl) zsz rfl h45
      exact stg_call (by decide) rfl ((wanted_of rfl 44 rfl t44).trans rfl) 30 #[(.tmp 45)] _ rfl #[v5_1] (by simp only [List.map_toArray, List.map_cons, List.map_nil, r45]) (fun w => by kernel_rfl) (fun v _ => v = .bool false) (as_anyU (us_good (HU5_1.out.keep hS) HlA.out) (congrArg Value.bool hgA)) (fun v w' hr hb => ⟨hS.trans (hb.mono hS.size), Flz.of hb, (updF_self _ _ _).trans hr⟩)
    · intro f w1 hS hf
      generalize hA : putAll _ _ f = aA
      have g44 : f 5 = .bool true := hf 5 (by decide) (by decide)
      have t44 : aA.tmps[44]? = some (.bool true) := by rw [← hA]; exact putAll_g f 44 5 slotsSz0n a0 sbSz0n (by kernel_rfl) zsz rfl g44
      have r14 : aA.eval (.tmp 14) = .bool false := by rw [← hA]; exact putAll_off f 14 slotsSz0n a0 (by kernel_rfl) z14
      exact stg_val (by decide) rfl ((wanted_of rfl 44 rfl t44).trans rfl) (.bool false) (ex_move (.tmp 14) rfl r14) hS (Flz.refl _) (updF_self _ _ _)
    · intro f w1 hS hf
      generalize hA : putAll _ _ f = aA
      have g44 : f 5 = .bool true := hf 5 (by decide) (by decide)
      have t44 : aA.tmps[44]? = some (.bool true) := by rw [← hA]; exact putAll_g f 44 5 slotsSz0n a0 sbSz0n (by kernel_rfl) zsz rfl g44
      have h46 : f 7 = .bool false := hf 7 (by decide) (by decide)
      have r46 : aA.eval (.tmp 46) = .bool false := by rw [← hA]; exact putAll_at f 46 7 slotsSz0n a0 sbSz0n (by kernel_rfl) zsz rfl h46
      have h47 : f 8 = .bool false := hf 8 (by decide) (by decide)
      have r47 : aA.eval (.tmp 47) = .bool false := by rw [← hA]; exact putAll_at f 47 8 slotsSz0n a0 sbSz0n (by kernel_rfl) zsz rfl h47
      exact stg_val (by decide) rfl ((wanted_of rfl 44 rfl t44).trans rfl) (.bool true) (ex_eqB _ _ (.tmp 46) (.tmp 47) rfl (by kernel_rfl) false false r46 r47) hS (Flz.refl _) (updF_self _ _ _)
    · intro f w1 hS hf
      generalize hA : putAll _ _ f = aA
      have h44 : f 5 = .bool true := hf 5 (by decide) (by decide)
      have r44 : aA.eval (.tmp 44) = .bool true := by rw [← hA]; exact putAll_at f 44 5 slotsSz0n a0 sbSz0n (by kernel_rfl) zsz rfl h44
      have h48 : f 9 = .bool true := hf 9 (by decide) (by decide)
      have r48 : aA.eval (.tmp 48) = .bool true := by rw [← hA]; exact putAll_at f 48 9 slotsSz0n a0 sbSz0n (by kernel_rfl) zsz rfl h48
      exact stg_val (by decide) rfl rfl (.bool true) (ex_pick (.tmp 44) (.tmp 48) _ rfl true r44 ((if_pos rfl).trans r48)) hS (Flz.refl _) (updF_self _ _ _)
    · intro f w1 hS hf
      generalize hA : putAll _ _ f = aA
      have h49 : f 10 = .bool true := hf 10 (by decide) (by decide)
      have r49 : aA.eval (.tmp 49) = .bool true := by rw [← hA]; exact putAll_at f 49 10 slotsSz0n a0 sbSz0n (by kernel_rfl) zsz rfl h49
      exact stg_val (by decide) rfl rfl (.bool true) (ex_move (.tmp 49) rfl r49) hS (Flz.refl _) (updF_self _ _ _)
    · intro f w1 hS hf
      generalize hA : putAll _ _ f = aA
      have g50 : f 11 = .bool true := hf 11 (by decide) (by decide)
      have t50 : aA.tmps[50]? = some (.bool true) := by rw [← hA]; exact putAll_g f 50 11 slotsSz0n a0 sbSz0n (by kernel_rfl) zsz rfl g50
      have r7 : aA.eval (.tmp 7) = v5_1 := by rw [← hA]; exact putAll_off f 7 slotsSz0n a0 (by kernel_rfl) z7
      exact stg_val (by decide) rfl ((wanted_of rfl 50 rfl t50).trans rfl) (v5_1) (ex_move (.tmp 7) rfl r7) hS (Flz.refl _) (updF_self _ _ _)
    · intro f w1 hS hf
      generalize hA : putAll _ _ f = aA
      have g50 : f 11 = .bool true := hf 11 (by decide) (by decide)
      have t50 : aA.tmps[50]? = some (.bool true) := by rw [← hA]; exact putAll_g f 50 11 slotsSz0n a0 sbSz0n (by kernel_rfl) zsz rfl g50
      have r9 : aA.eval (.tmp 9) = .pointer (some ⟨b5_5, 0, none⟩) := by rw [← hA]; exact putAll_off f 9 slotsSz0n a0 (by kernel_rfl) z9
      exact stg_val (by decide) rfl ((wanted_of rfl 50 rfl t50).trans rfl) (.agg (encU sx).toArray) (ex_loadR 24 (.tmp 9) rfl ⟨b5_5, 0, none⟩ r9 (fun _ => by kernel_rfl) (encU sx) (by rw [encU_len]; kernel_rfl) ((HX_b5_5.out.keepB hS).part (encU sx) 0 (encU_all' sx))) hS (Flz.refl _) (updF_self _ _ _)
    · intro f w1 hS hf
      generalize hA : putAll _ _ f = aA
      have g50 : f 11 = .bool true := hf 11 (by decide) (by decide)
      have t50 : aA.tmps[50]? = some (.bool true) := by rw [← hA]; exact putAll_g f 50 11 slotsSz0n a0 sbSz0n (by kernel_rfl) zsz rfl g50
      have h51 : f 12 = v5_1 := hf 12 (by decide) (by decide)
      have r51 : aA.eval (.tmp 51) = v5_1 := by rw [← hA]; exact putAll_at f 51 12 slotsSz0n a0 sbSz0n (by kernel_rfl) zsz rfl h51
      have h52 : f 13 = .agg (encU sx).toArray := hf 13 (by decide) (by decide)
      have r52 : aA.eval (.tmp 52) = .agg (encU sx).toArray := by rw [← hA]; exact putAll_at f 52 13 slotsSz0n a0 sbSz0n (by kernel_rfl) zsz rfl h52
      exact stg_call (by decide) rfl ((wanted_of rfl 50 rfl t50).trans rfl) 31 #[(.tmp 51), (.tmp 52)] _ rfl #[v5_1, .agg (encU sx).toArray] (by simp only [List.map_toArray, List.map_cons, List.map_nil, r51, r52]) (fun w => by kernel_rfl) (fun v _ => v = .bool false) (as_anyU (us_has (HU5_1.out.keep hS) HlA.out) (congrArg Value.bool (show (goodU A && decide (sx ∈ A)) = false by rw [hgA]; rfl))) (fun v w' hr hb => ⟨hS.trans (hb.mono hS.size), Flz.of hb, (updF_self _ _ _).trans hr⟩)
    · intro f w1 hS hf
      generalize hA : putAll _ _ f = aA
      have g50 : f 11 = .bool true := hf 11 (by decide) (by decide)
      have t50 : aA.tmps[50]? = some (.bool true) := by rw [← hA]; exact putAll_g f 50 11 slotsSz0n a0 sbSz0n (by kernel_rfl) zsz rfl g50
      have r14 : aA.eval (.tmp 14) = .bool false := by rw [← hA]; exact putAll_off f 14 slotsSz0n a0 (by kernel_rfl) z14
      exact stg_val (by decide) rfl ((wanted_of rfl 50 rfl t50).trans rfl) (.bool false) (ex_move (.tmp 14) rfl r14) hS (Flz.refl _) (updF_self _ _ _)
    · intro f w1 hS hf
      generalize hA : putAll _ _ f = aA
      have g50 : f 11 = .bool true := hf 11 (by decide) (by decide)
      have t50 : aA.tmps[50]? = some (.bool true) := by rw [← hA]; exact putAll_g f 50 11 slotsSz0n a0 sbSz0n (by kernel_rfl) zsz rfl g50
      have h54 : f 15 = .bool false := hf 15 (by decide) (by decide)
      have r54 : aA.eval (.tmp 54) = .bool false := by rw [← hA]; exact putAll_at f 54 15 slotsSz0n a0 sbSz0n (by kernel_rfl) zsz rfl h54
      exact stg_val (by decide) rfl ((wanted_of rfl 50 rfl t50).trans rfl) (.bool false) (ex_move (.tmp 54) rfl r54) hS (Flz.refl _) (updF_self _ _ _)
    · intro f w1 hS hf
      generalize hA : putAll _ _ f = aA
      have g55 : f 16 = .bool false := hf 16 (by decide) (by decide)
      have t55 : aA.tmps[55]? = some (.bool false) := by rw [← hA]; exact putAll_g f 55 16 slotsSz0n a0 sbSz0n (by kernel_rfl) zsz rfl g55
      exact stg_skip (by decide) rfl ((wanted_of rfl 55 rfl t55).trans rfl) hS (Flz.refl _) (updF_self _ _ _)
    · intro f w1 hS hf
      generalize hA : putAll _ _ f = aA
      have g55 : f 16 = .bool false := hf 16 (by decide) (by decide)
      have t55 : aA.tmps[55]? = some (.bool false) := by rw [← hA]; exact putAll_g f 55 16 slotsSz0n a0 sbSz0n (by kernel_rfl) zsz rfl g55
      exact stg_skip (by decide) rfl ((wanted_of rfl 55 rfl t55).trans rfl) hS (Flz.refl _) (updF_self _ _ _)
    · intro f w1 hS hf
      generalize hA : putAll _ _ f = aA
      have g55 : f 16 = .bool false := hf 16 (by decide) (by decide)
      have t55 : aA.tmps[55]? = some (.bool false) := by rw [← hA]; exact putAll_g f 55 16 slotsSz0n a0 sbSz0n (by kernel_rfl) zsz rfl g55
      exact stg_skip (by decide) rfl ((wanted_of rfl 55 rfl t55).trans rfl) hS (Flz.refl _) (updF_self _ _ _)
    · intro f w1 hS hf
      generalize hA : putAll _ _ f = aA
      have g50 : f 11 = .bool true := hf 11 (by decide) (by decide)
      have t50 : aA.tmps[50]? = some (.bool true) := by rw [← hA]; exact putAll_g f 50 11 slotsSz0n a0 sbSz0n (by kernel_rfl) zsz rfl g50
      have h55 : f 16 = .bool false := hf 16 (by decide) (by decide)
      have r55 : aA.eval (.tmp 55) = .bool false := by rw [← hA]; exact putAll_at f 55 16 slotsSz0n a0 sbSz0n (by kernel_rfl) zsz rfl h55
      exact stg_val (by decide) rfl ((wanted_of rfl 50 rfl t50).trans rfl) (.bool false) (ex_pick (.tmp 55) (.tmp 58) _ rfl false r55 ((if_neg (by decide)).trans rfl)) hS (Flz.refl _) (updF_self _ _ _)
    · intro f w1 hS hf
      generalize hA : putAll _ _ f = aA
      have g50 : f 11 = .bool true := hf 11 (by decide) (by decide)
      have t50 : aA.tmps[50]? = some (.bool true) := by rw [← hA]; exact putAll_g f 50 11 slotsSz0n a0 sbSz0n (by kernel_rfl) zsz rfl g50
      have h53 : f 14 = .bool false := hf 14 (by decide) (by decide)
      have r53 : aA.eval (.tmp 53) = .bool false := by rw [← hA]; exact putAll_at f 53 14 slotsSz0n a0 sbSz0n (by kernel_rfl) zsz rfl h53
      have h59 : f 20 = .bool false := hf 20 (by decide) (by decide)
      have r59 : aA.eval (.tmp 59) = .bool false := by rw [← hA]; exact putAll_at f 59 20 slotsSz0n a0 sbSz0n (by kernel_rfl) zsz rfl h59
      exact stg_val (by decide) rfl ((wanted_of rfl 50 rfl t50).trans rfl) (.bool true) (ex_eqB _ _ (.tmp 53) (.tmp 59) rfl (by kernel_rfl) false false r53 r59) hS (Flz.refl _) (updF_self _ _ _)
    · intro f w1 hS hf
      generalize hA : putAll _ _ f = aA
      have h50 : f 11 = .bool true := hf 11 (by decide) (by decide)
      have r50 : aA.eval (.tmp 50) = .bool true := by rw [← hA]; exact putAll_at f 50 11 slotsSz0n a0 sbSz0n (by kernel_rfl) zsz rfl h50
      have h60 : f 21 = .bool true := hf 21 (by decide) (by decide)
      have r60 : aA.eval (.tmp 60) = .bool true := by rw [← hA]; exact putAll_at f 60 21 slotsSz0n a0 sbSz0n (by kernel_rfl) zsz rfl h60
      exact stg_val (by decide) rfl rfl (.bool true) (ex_pick (.tmp 50) (.tmp 60) _ rfl true r50 ((if_pos rfl).trans r60)) hS (Flz.refl _) (updF_self _ _ _)
  intro f x23 hS hf hap
  have h0 : f 0 = v7_1 := hf 0 (by decide) (by decide)
  obtain ⟨v9_1, h1, hu1⟩ : ∃ v, f 1 = v ∧ Us x23 v (srt A) := ⟨_, rfl, (hf 1 (by decide) (by decide))⟩
  clear hu1
  have h2 : f 2 = v6_1 := hf 2 (by decide) (by decide)
  obtain ⟨v9_3, h3, hu3⟩ : ∃ v, f 3 = v ∧ Us x23 v (srt A) := ⟨_, rfl, (hf 3 (by decide) (by decide))⟩
  clear hu3
  have h4 : f 4 = .bool true := hf 4 (by decide) (by decide)
  have h5 : f 5 = .bool true := hf 5 (by decide) (by decide)
  have h6 : f 6 = v5_1 := hf 6 (by decide) (by decide)
  have h7 : f 7 = .bool false := hf 7 (by decide) (by decide)
  have h8 : f 8 = .bool false := hf 8 (by decide) (by decide)
  have h9 : f 9 = .bool true := hf 9 (by decide) (by decide)
  have h10 : f 10 = .bool true := hf 10 (by decide) (by decide)
  have h11 : f 11 = .bool true := hf 11 (by decide) (by decide)
  have h12 : f 12 = v5_1 := hf 12 (by decide) (by decide)
  have h13 : f 13 = .agg (encU sx).toArray := hf 13 (by decide) (by decide)
  have h14 : f 14 = .bool false := hf 14 (by decide) (by decide)
  have h15 : f 15 = .bool false := hf 15 (by decide) (by decide)
  have h16 : f 16 = .bool false := hf 16 (by decide) (by decide)
  have h17 : f 17 = undef := hf 17 (by decide) (by decide)
  have h18 : f 18 = undef := hf 18 (by decide) (by decide)
  have h19 : f 19 = undef := hf 19 (by decide) (by decide)
  have h20 : f 20 = .bool false := hf 20 (by decide) (by decide)
  have h21 : f 21 = .bool true := hf 21 (by decide) (by decide)
  have h22 : f 22 = .bool true := hf 22 (by decide) (by decide)
  clear hf hap
  clear zsz z13 z10 z7 z14 z9
  subst ha0
  simp only [slotsSz0n, putAll, h0, h1, h2, h3, h4, h5, h6, h7, h8, h9, h10, h11, h12, h13, h14, h15, h16, h17, h18, h19, h20, h21, h22, Act.put, List.setIfInBounds_toArray, List.set_cons_zero, List.set_cons_succ]
  clear h0 h1 h2 h3 h4 h5 h6 h7 h8 h9 h10 h11 h12 h13 h14 h15 h16 h17 h18 h19 h20 h21 h22
  replace HX1 := Lib.hid (HX1.out.keepB hS)
  replace HU5_1 := Lib.hid (HU5_1.out.keep hS)
  replace HU5_3 := Lib.hid (HU5_3.out.keep hS)
  replace HX_b5_5 := Lib.hid (HX_b5_5.out.keepB hS)
  replace HU6_1 := Lib.hid (HU6_1.out.keep hS)
  replace HU6_3 := Lib.hid (HU6_3.out.keep hS)
  replace HX_b6_5 := Lib.hid (HX_b6_5.out.keepB hS)
  replace HU7_1 := Lib.hid (HU7_1.out.keep hS)
  replace HB := Lib.hid (HB.out.trans (hS.mono HB.out.size))
  clear hS
  refine rest_act (fun a0 ha0 => ?_)
  have zsz : a0.tmps.size = 138 := by rw [ha0]; rfl
  have z61 : a0.eval (.tmp 61) = .bool true := by rw [ha0]; rfl
  have z13 : a0.eval (.tmp 13) = v7_1 := by rw [ha0]; rfl
  have z9 : a0.eval (.tmp 9) = .pointer (some ⟨b5_5, 0, none⟩) := by rw [ha0]; rfl
  have z10 : a0.eval (.tmp 10) = v6_1 := by rw [ha0]; rfl
  have z12 : a0.eval (.tmp 12) = .pointer (some ⟨b6_5, 0, none⟩) := by rw [ha0]; rfl
  refine rest_stage (E := Flz) 23 32 [] slotsSz23n waitSz23n [Fct.val Flz 23 (.bool true), Fct.val Flz 24 (v7_1), Fct.val Flz 25 (.agg (encU sx).toArray), Fct.val Flz 26 (.bool (decide (sx ∈ A))), Fct.val Flz 27 (v6_1), Fct.val Flz 28 (.agg (encU sx).toArray), Fct.val Flz 29 (.bool (decide (sx ∈ A))), Fct.val Flz 30 (.bool true), Fct.val Flz 31 (.bool true)] (fun w' => Below x23.heap.size x23 w') _ chkSz23n (by kernel_rfl) (by kernel_rfl) ⟨by decide, by decide⟩ (by decide) (Below.refl _ _) ?_ ?_
  · refine lt_t (lt_t (lt_t (lt_t (lt_t (lt_t (lt_t (lt_t (lt_t (lt_b) ?_) ?_) ?_) ?_) ?_) ?_) ?_) ?_) ?_
    · intro f w1 hS hf
      generalize hA : putAll _ _ f = aA
      have r61 : aA.eval (.tmp 61) = .bool true := by rw [← hA]; exact putAll_off f 61 slotsSz23n a0 (by kernel_rfl) z61
      exact stg_val (by decide) rfl rfl (.bool true) (ex_move (.tmp 61) rfl r61) hS (Flz.refl _) (updF_self _ _ _)
    · intro f w1 hS hf
      generalize hA : putAll _ _ f = aA
      have g62 : f 23 = .bool true := hf 23 (by decide) (by decide)
      have t62 : aA.tmps[62]? = some (.bool true) := by rw [← hA]; exact putAll_g f 62 23 slotsSz23n a0 sbSz23n (by kernel_rfl) zsz rfl g62
      have r13 : aA.eval (.tmp 13) = v7_1 := by rw [← hA]; exact putAll_off f 13 slotsSz23n a0 (by kernel_rfl) z13
      exact stg_val (by decide) rfl ((wanted_of rfl 62 rfl t62).trans rfl) (v7_1) (ex_move (.tmp 13) rfl r13) hS (Flz.refl _) (updF_self _ _ _)
    · intro f w1 hS hf
      generalize hA : putAll _ _ f = aA
      have g62 : f 23 = .bool true := hf 23 (by decide) (by decide)
      have t62 : aA.tmps[62]? = some (.bool true) := by rw [← hA]; exact putAll_g f 62 23 slotsSz23n a0 sbSz23n (by kernel_rfl) zsz rfl g62
      have r9 : aA.eval (.tmp 9) = .pointer (some ⟨b5_5, 0, none⟩) := by rw [← hA]; exact putAll_off f 9 slotsSz23n a0 (by kernel_rfl) z9
      exact stg_val (by decide) rfl ((wanted_of rfl 62 rfl t62).trans rfl) (.agg (encU sx).toArray) (ex_loadR 24 (.tmp 9) rfl ⟨b5_5, 0, none⟩ r9 (fun _ => by kernel_rfl) (encU sx) (by rw [encU_len]; kernel_rfl) ((HX_b5_5.out.keepB hS).part (encU sx) 0 (encU_all' sx))) hS (Flz.refl _) (updF_self _ _ _)
    · intro f w1 hS hf
      generalize hA : putAll _ _ f = aA
      have g62 : f 23 = .bool true := hf 23 (by decide) (by decide)
      have t62 : aA.tmps[62]? = some (.bool true) := by rw [← hA]; exact putAll_g f 62 23 slotsSz23n a0 sbSz23n (by kernel_rfl) zsz rfl g62
      have h63 : f 24 = v7_1 := hf 24 (by decide) (by decide)
      have r63 : aA.eval (.tmp 63) = v7_1 := by rw [← hA]; exact putAll_at f 63 24 slotsSz23n a0 sbSz23n (by kernel_rfl) zsz rfl h63
      have h64 : f 25 = .agg (encU sx).toArray := hf 25 (by decide) (by decide)
      have r64 : aA.eval (.tmp 64) = .agg (encU sx).toArray := by rw [← hA]; exact putAll_at f 64 25 slotsSz23n a0 sbSz23n (by kernel_rfl) zsz rfl h64
      exact stg_call (by decide) rfl ((wanted_of rfl 62 rfl t62).trans rfl) 31 #[(.tmp 63), (.tmp 64)] _ rfl #[v7_1, .agg (encU sx).toArray] (by simp only [List.map_toArray, List.map_cons, List.map_nil, r63, r64]) (fun w => by kernel_rfl) (fun v _ => v = .bool (decide (sx ∈ A))) (as_anyU (us_has (HU7_1.out.keep hS) HlS.out) (congrArg Value.bool (sy_srt HA.out sx))) (fun v w' hr hb => ⟨hS.trans (hb.mono hS.size), Flz.of hb, (updF_self _ _ _).trans hr⟩)
    · intro f w1 hS hf
      generalize hA : putAll _ _ f = aA
      have g62 : f 23 = .bool true := hf 23 (by decide) (by decide)
      have t62 : aA.tmps[62]? = some (.bool true) := by rw [← hA]; exact putAll_g f 62 23 slotsSz23n a0 sbSz23n (by kernel_rfl) zsz rfl g62
      have r10 : aA.eval (.tmp 10) = v6_1 := by rw [← hA]; exact putAll_off f 10 slotsSz23n a0 (by kernel_rfl) z10
      exact stg_val (by decide) rfl ((wanted_of rfl 62 rfl t62).trans rfl) (v6_1) (ex_move (.tmp 10) rfl r10) hS (Flz.refl _) (updF_self _ _ _)
    · intro f w1 hS hf
      generalize hA : putAll _ _ f = aA
      have g62 : f 23 = .bool true := hf 23 (by decide) (by decide)
      have t62 : aA.tmps[62]? = some (.bool true) := by rw [← hA]; exact putAll_g f 62 23 slotsSz23n a0 sbSz23n (by kernel_rfl) zsz rfl g62
      have r12 : aA.eval (.tmp 12) = .pointer (some ⟨b6_5, 0, none⟩) := by rw [← hA]; exact putAll_off f 12 slotsSz23n a0 (by kernel_rfl) z12
      exact stg_val (by decide) rfl ((wanted_of rfl 62 rfl t62).trans rfl) (.agg (encU sx).toArray) (ex_loadR 35 (.tmp 12) rfl ⟨b6_5, 0, none⟩ r12 (fun _ => by kernel_rfl) (encU sx) (by rw [encU_len]; kernel_rfl) ((HX_b6_5.out.keepB hS).part (encU sx) 0 (encU_all' sx))) hS (Flz.refl _) (updF_self _ _ _)
    · intro f w1 hS hf
      generalize hA : putAll _ _ f = aA
      have g62 : f 23 = .bool true := hf 23 (by decide) (by decide)
      have t62 : aA.tmps[62]? = some (.bool true) := by rw [← hA]; exact putAll_g f 62 23 slotsSz23n a0 sbSz23n (by kernel_rfl) zsz rfl g62
      have h66 : f 27 = v6_1 := hf 27 (by decide) (by decide)
      have r66 : aA.eval (.tmp 66) = v6_1 := by rw [← hA]; exact putAll_at f 66 27 slotsSz23n a0 sbSz23n (by kernel_rfl) zsz rfl h66
      have h67 : f 28 = .agg (encU sx).toArray := hf 28 (by decide) (by decide)
      have r67 : aA.eval (.tmp 67) = .agg (encU sx).toArray := by rw [← hA]; exact putAll_at f 67 28 slotsSz23n a0 sbSz23n (by kernel_rfl) zsz rfl h67
      exact stg_call (by decide) rfl ((wanted_of rfl 62 rfl t62).trans rfl) 32 #[(.tmp 66), (.tmp 67)] _ rfl #[v6_1, .agg (encU sx).toArray] (by simp only [List.map_toArray, List.map_cons, List.map_nil, r66, r67]) (fun w => by kernel_rfl) (fun v _ => v = .bool (decide (sx ∈ A))) (us_rhas (HU6_1.out.keep hS) HlA.out) (fun v w' hr hb => ⟨hS.trans (hb.mono hS.size), Flz.of hb, (updF_self _ _ _).trans hr⟩)
    · intro f w1 hS hf
      generalize hA : putAll _ _ f = aA
      have g62 : f 23 = .bool true := hf 23 (by decide) (by decide)
      have t62 : aA.tmps[62]? = some (.bool true) := by rw [← hA]; exact putAll_g f 62 23 slotsSz23n a0 sbSz23n (by kernel_rfl) zsz rfl g62
      have h65 : f 26 = .bool (decide (sx ∈ A)) := hf 26 (by decide) (by decide)
      have r65 : aA.eval (.tmp 65) = .bool (decide (sx ∈ A)) := by rw [← hA]; exact putAll_at f 65 26 slotsSz23n a0 sbSz23n (by kernel_rfl) zsz rfl h65
      have h68 : f 29 = .bool (decide (sx ∈ A)) := hf 29 (by decide) (by decide)
      have r68 : aA.eval (.tmp 68) = .bool (decide (sx ∈ A)) := by rw [← hA]; exact putAll_at f 68 29 slotsSz23n a0 sbSz23n (by kernel_rfl) zsz rfl h68
      exact stg_val (by decide) rfl ((wanted_of rfl 62 rfl t62).trans rfl) (.bool true) (Eq.trans (ex_eqB _ _ (.tmp 65) (.tmp 68) rfl (by kernel_rfl) (decide (sx ∈ A)) (decide (sx ∈ A)) r65 r68) (by rw [(beq_self_eq_true (decide (sx ∈ A)))])) hS (Flz.refl _) (updF_self _ _ _)
    · intro f w1 hS hf
      generalize hA : putAll _ _ f = aA
      have h62 : f 23 = .bool true := hf 23 (by decide) (by decide)
      have r62 : aA.eval (.tmp 62) = .bool true := by rw [← hA]; exact putAll_at f 62 23 slotsSz23n a0 sbSz23n (by kernel_rfl) zsz rfl h62
      have h69 : f 30 = .bool true := hf 30 (by decide) (by decide)
      have r69 : aA.eval (.tmp 69) = .bool true := by rw [← hA]; exact putAll_at f 69 30 slotsSz23n a0 sbSz23n (by kernel_rfl) zsz rfl h69
      exact stg_val (by decide) rfl rfl (.bool true) (ex_pick (.tmp 62) (.tmp 69) _ rfl true r62 ((if_pos rfl).trans r69)) hS (Flz.refl _) (updF_self _ _ _)
  intro f x32 hS hf hap
  have h23 : f 23 = .bool true := hf 23 (by decide) (by decide)
  have h24 : f 24 = v7_1 := hf 24 (by decide) (by decide)
  have h25 : f 25 = .agg (encU sx).toArray := hf 25 (by decide) (by decide)
  have h26 : f 26 = .bool (decide (sx ∈ A)) := hf 26 (by decide) (by decide)
  have h27 : f 27 = v6_1 := hf 27 (by decide) (by decide)
  have h28 : f 28 = .agg (encU sx).toArray := hf 28 (by decide) (by decide)
  have h29 : f 29 = .bool (decide (sx ∈ A)) := hf 29 (by decide) (by decide)
  have h30 : f 30 = .bool true := hf 30 (by decide) (by decide)
  have h31 : f 31 = .bool true := hf 31 (by decide) (by decide)
  clear hf hap
  clear zsz z61 z13 z9 z10 z12
  subst ha0
  simp only [slotsSz23n, putAll, h23, h24, h25, h26, h27, h28, h29, h30, h31, Act.put, List.setIfInBounds_toArray, List.set_cons_zero, List.set_cons_succ]
  clear h23 h24 h25 h26 h27 h28 h29 h30 h31
  replace HX1 := Lib.hid (HX1.out.keepB hS)
  replace HU5_1 := Lib.hid (HU5_1.out.keep hS)
  replace HU5_3 := Lib.hid (HU5_3.out.keep hS)
  replace HX_b5_5 := Lib.hid (HX_b5_5.out.keepB hS)
  replace HU6_1 := Lib.hid (HU6_1.out.keep hS)
  replace HU6_3 := Lib.hid (HU6_3.out.keep hS)
  replace HX_b6_5 := Lib.hid (HX_b6_5.out.keepB hS)
  replace HU7_1 := Lib.hid (HU7_1.out.keep hS)
  replace HB := Lib.hid (HB.out.trans (hS.mono HB.out.size))
  clear hS
  refine rest_act (fun a0 ha0 => ?_)
  have zsz : a0.tmps.size = 138 := by rw [ha0]; rfl
  have z70 : a0.eval (.tmp 70) = .bool true := by rw [ha0]; rfl
  have z7 : a0.eval (.tmp 7) = v5_1 := by rw [ha0]; rfl
  have z9 : a0.eval (.tmp 9) = .pointer (some ⟨b5_5, 0, none⟩) := by rw [ha0]; rfl
  have z10 : a0.eval (.tmp 10) = v6_1 := by rw [ha0]; rfl
  have z12 : a0.eval (.tmp 12) = .pointer (some ⟨b6_5, 0, none⟩) := by rw [ha0]; rfl
  refine rest_stage (E := Flz) 32 42 [] slotsSz32n waitSz32n [Fct.val Flz 32 (.bool true), Fct.val Flz 33 (v5_1), Fct.val Flz 34 (.agg (encU sx).toArray), Fct.obj 35 (fun v w => Us w v (eitU A [sx])) (fun _ _ _ h he => h.flz he), Fct.obj 36 (fun v w => Us w v (eitU A [sx])) (fun _ _ _ h he => h.flz he), Fct.obj 37 (fun v w => ∃ g, v = .slice (some ⟨g, 0, none⟩) 0 0 ∧ OwnU w x32.heap.size 35 v []) (fun _ _ _ ⟨g, a, b⟩ he => ⟨g, a, b.flz he (by decide)⟩), Fct.val Flz 38 (v6_1), (⟨([39, 36], fun f w => App x32.heap.size 35 (f 36) (f 39) (eitU A [sx]) A w), fun f f' w w' h he hd => (show App x32.heap.size 35 (f' 36) (f' 39) (eitU A [sx]) A w' by rw [hd 36 (by simp), hd 39 (by simp)]; exact h.flz he (by decide))⟩ : Fct Flz), Fct.val Flz 40 (.agg (encU sx).toArray), Fct.obj 41 (fun v w => ∃ g, v = .slice (some ⟨g, 0, none⟩) 1 1 ∧ Has w g 35 (encU sx)) (fun _ _ _ ⟨g, a, b⟩ he => ⟨g, a, b.flz he (by decide)⟩)] (fun w' => Below x32.heap.size x32 w') _ chkSz32n (by kernel_rfl) (by kernel_rfl) ⟨by decide, by decide⟩ (by decide) (Below.refl _ _) ?_ ?_
  · refine lt_t (lt_t (lt_t (lt_t (lt_t (lt_t (lt_t (lt_t (lt_t (lt_t (lt_b) ?_) ?_) ?_) ?_) ?_) ?_) ?_) ?_) ?_) ?_
    · intro f w1 hS hf
      generalize hA : putAll _ _ f = aA
      have r70 : aA.eval (.tmp 70) = .bool true := by rw [← hA]; exact putAll_off f 70 slotsSz32n a0 (by kernel_rfl) z70
      exact stg_val (by decide) rfl rfl (.bool true) (ex_move (.tmp 70) rfl r70) hS (Flz.refl _) (updF_self _ _ _)
    · intro f w1 hS hf
      generalize hA : putAll _ _ f = aA
      have g71 : f 32 = .bool true := hf 32 (by decide) (by decide)
      have t71 : aA.tmps[71]? = some (.bool true) := by rw [← hA]; exact putAll_g f 71 32 slotsSz32n a0 sbSz32n (by kernel_rfl) zsz rfl g71
      have r7 : aA.eval (.tmp 7) = v5_1 := by rw [← hA]; exact putAll_off f 7 slotsSz32n a0 (by kernel_rfl) z7
      exact stg_val (by decide) rfl ((wanted_of rfl 71 rfl t71).trans rfl) (v5_1) (ex_move (.tmp 7) rfl r7) hS (Flz.refl _) (updF_self _ _ _)
    · intro f w1 hS hf
      generalize hA : putAll _ _ f = aA
      have g71 : f 32 = .bool true := hf 32 (by decide) (by decide)
      have t71 : aA.tmps[71]? = some (.bool true) := by rw [← hA]; exact putAll_g f 71 32 slotsSz32n a0 sbSz32n (by kernel_rfl) zsz rfl g71
      have r9 : aA.eval (.tmp 9) = .pointer (some ⟨b5_5, 0, none⟩) := by rw [← hA]; exact putAll_off f 9 slotsSz32n a0 (by kernel_rfl) z9
      exact stg_val (by decide) rfl ((wanted_of rfl 71 rfl t71).trans rfl) (.agg (encU sx).toArray) (ex_loadR 24 (.tmp 9) rfl ⟨b5_5, 0, none⟩ r9 (fun _ => by kernel_rfl) (encU sx) (by rw [encU_len]; kernel_rfl) ((HX_b5_5.out.keepB hS).part (encU sx) 0 (encU_all' sx))) hS (Flz.refl _) (updF_self _ _ _)
    · intro f w1 hS hf
      generalize hA : putAll _ _ f = aA
      have g71 : f 32 = .bool true := hf 32 (by decide) (by decide)
      have t71 : aA.tmps[71]? = some (.bool true) := by rw [← hA]; exact putAll_g f 71 32 slotsSz32n a0 sbSz32n (by kernel_rfl) zsz rfl g71
      have h72 : f 33 = v5_1 := hf 33 (by decide) (by decide)
      have r72 : aA.eval (.tmp 72) = v5_1 := by rw [← hA]; exact putAll_at f 72 33 slotsSz32n a0 sbSz32n (by kernel_rfl) zsz rfl h72
      have h73 : f 34 = .agg (encU sx).toArray := hf 34 (by decide) (by decide)
      have r73 : aA.eval (.tmp 73) = .agg (encU sx).toArray := by rw [← hA]; exact putAll_at f 73 34 slotsSz32n a0 sbSz32n (by kernel_rfl) zsz rfl h73
      exact stg_call (by decide) rfl ((wanted_of rfl 71 rfl t71).trans rfl) 33 #[(.tmp 72), (.tmp 73)] _ rfl #[v5_1, .agg (encU sx).toArray] (by simp only [List.map_toArray, List.map_cons, List.map_nil, r72, r73]) (fun w => by kernel_rfl) (fun v w' => Us w' v (eitU A [sx])) (us_add (HU5_1.out.keep hS) HlA.out) (fun v w' hr hb => ⟨hS.trans (hb.mono hS.size), Flz.of hb, (show Us w' (updF f 35 v 35) (eitU A [sx]) by rw [updF_self]; exact hr)⟩)
    · intro f w1 hS hf
      generalize hA : putAll _ _ f = aA
      have g71 : f 32 = .bool true := hf 32 (by decide) (by decide)
      have t71 : aA.tmps[71]? = some (.bool true) := by rw [← hA]; exact putAll_g f 71 32 slotsSz32n a0 sbSz32n (by kernel_rfl) zsz rfl g71
      have hu35 : Us w1 (f 35) (eitU A [sx]) := (hf 35 (by decide) (by decide))
      have e74 : aA.eval (.tmp 74) = f 35 := by rw [← hA]; exact putAll_at f 74 35 slotsSz32n a0 sbSz32n (by kernel_rfl) zsz rfl rfl
      exact stg_call (by decide) rfl ((wanted_of rfl 71 rfl t71).trans rfl) 25 #[(.tmp 74)] _ rfl #[f 35] (by simp only [List.map_toArray, List.map_cons, List.map_nil, e74]) (fun w => by kernel_rfl) (fun v w' => Us w' v (eitU A [sx])) (us_own hu35 HlE.out) (fun v w' hr hb => ⟨hS.trans (hb.mono hS.size), Flz.of hb, (show Us w' (updF f 36 v 36) (eitU A [sx]) by rw [updF_self]; exact hr)⟩)
    · intro f w1 hS hf
      generalize hA : putAll _ _ f = aA
      have g71 : f 32 = .bool true := hf 32 (by decide) (by decide)
      have t71 : aA.tmps[71]? = some (.bool true) := by rw [← hA]; exact putAll_g f 71 32 slotsSz32n a0 sbSz32n (by kernel_rfl) zsz rfl g71
      exact stg_wp (by decide) rfl ((wanted_of rfl 71 rfl t71).trans rfl) (fun K hK => wp_nil_x x32.heap.size 52 35 elRef rfl hS.size (fun w' ⟨g, h1, h2⟩ hb => by
        subst h2
        exact hK _ _ (hS.trans (hb.mono hS.size)) (Flz.of hb) ⟨_, updF_self _ _ _, (show OwnU w' x32.heap.size 35 (updF f 37 _ 37) [] by rw [updF_self]; exact h1)⟩))
    · intro f w1 hS hf
      generalize hA : putAll _ _ f = aA
      have g71 : f 32 = .bool true := hf 32 (by decide) (by decide)
      have t71 : aA.tmps[71]? = some (.bool true) := by rw [← hA]; exact putAll_g f 71 32 slotsSz32n a0 sbSz32n (by kernel_rfl) zsz rfl g71
      have r10 : aA.eval (.tmp 10) = v6_1 := by rw [← hA]; exact putAll_off f 10 slotsSz32n a0 (by kernel_rfl) z10
      exact stg_val (by decide) rfl ((wanted_of rfl 71 rfl t71).trans rfl) (v6_1) (ex_move (.tmp 10) rfl r10) hS (Flz.refl _) (updF_self _ _ _)
    · intro f w1 hS hf
      generalize hA : putAll _ _ f = aA
      have g71 : f 32 = .bool true := hf 32 (by decide) (by decide)
      have t71 : aA.tmps[71]? = some (.bool true) := by rw [← hA]; exact putAll_g f 71 32 slotsSz32n a0 sbSz32n (by kernel_rfl) zsz rfl g71
      have h77 : f 38 = v6_1 := hf 38 (by decide) (by decide)
      have r77 : aA.eval (.tmp 77) = v6_1 := by rw [← hA]; exact putAll_at f 77 38 slotsSz32n a0 sbSz32n (by kernel_rfl) zsz rfl h77
      have e76 : aA.eval (.tmp 76) = f 37 := by rw [← hA]; exact putAll_at f 76 37 slotsSz32n a0 sbSz32n (by kernel_rfl) zsz rfl rfl
      obtain ⟨g, hv, ho⟩ := hf 37 (by decide) (by decide)
      have hu36 : Us w1 (f 36) (eitU A [sx]) := hf 36 (by decide) (by decide)
      exact stg_wp (by decide) rfl ((wanted_of rfl 71 rfl t71).trans rfl) (fun K hK => wp_app0_x x32.heap.size 52 35 elRef (.tmp 76) (.tmp 77) rfl g (e76.trans hv) (by rw [← hv]; exact ho) v6_1 (f 36) (eitU A [sx]) A (HU6_1.out.keep hS) r77 hu36 (Nat.le_trans HlA.out (by decide)) hS.size (fun v' w' ha hb => hK _ _ (hS.trans (hb.mono hS.size)) (Flz.of hb) (show App x32.heap.size 35 (updF f 39 v' 36) (updF f 39 v' 39) (eitU A [sx]) A w' by rw [updF_self, updF_ne f v' (by decide)]; exact ha)))
    · intro f w1 hS hf
      generalize hA : putAll _ _ f = aA
      have g71 : f 32 = .bool true := hf 32 (by decide) (by decide)
      have t71 : aA.tmps[71]? = some (.bool true) := by rw [← hA]; exact putAll_g f 71 32 slotsSz32n a0 sbSz32n (by kernel_rfl) zsz rfl g71
      have r12 : aA.eval (.tmp 12) = .pointer (some ⟨b6_5, 0, none⟩) := by rw [← hA]; exact putAll_off f 12 slotsSz32n a0 (by kernel_rfl) z12
      exact stg_val (by decide) rfl ((wanted_of rfl 71 rfl t71).trans rfl) (.agg (encU sx).toArray) (ex_loadR 35 (.tmp 12) rfl ⟨b6_5, 0, none⟩ r12 (fun _ => by kernel_rfl) (encU sx) (by rw [encU_len]; kernel_rfl) ((HX_b6_5.out.keepB hS).part (encU sx) 0 (encU_all' sx))) hS (Flz.refl _) (updF_self _ _ _)
    · intro f w1 hS hf
      generalize hA : putAll _ _ f = aA
      have g71 : f 32 = .bool true := hf 32 (by decide) (by decide)
      have t71 : aA.tmps[71]? = some (.bool true) := by rw [← hA]; exact putAll_g f 71 32 slotsSz32n a0 sbSz32n (by kernel_rfl) zsz rfl g71
      have h79 : f 40 = .agg (encU sx).toArray := hf 40 (by decide) (by decide)
      have r79 : aA.eval (.tmp 79) = .agg (encU sx).toArray := by rw [← hA]; exact putAll_at f 79 40 slotsSz32n a0 sbSz32n (by kernel_rfl) zsz rfl h79
      exact stg_wp (by decide) rfl ((wanted_of rfl 71 rfl t71).trans rfl) (fun K hK => wp_one_su 52 35 elRef (.tmp 79) rfl sx r79 (hK _ _ (hS.alloc hS.size _) (Flz.al _ _) ⟨_, updF_self _ _ _, Has.made' _ _ _ _ rfl⟩))
  intro f x42 hS hf hap
  have h32 : f 32 = .bool true := hf 32 (by decide) (by decide)
  have h33 : f 33 = v5_1 := hf 33 (by decide) (by decide)
  have h34 : f 34 = .agg (encU sx).toArray := hf 34 (by decide) (by decide)
  obtain ⟨v9_35, h35, hu35⟩ : ∃ v, f 35 = v ∧ Us x42 v (eitU A [sx]) := ⟨_, rfl, (hf 35 (by decide) (by decide))⟩
  clear hu35
  obtain ⟨v9_36, h36, hu36⟩ : ∃ v, f 36 = v ∧ Us x42 v (eitU A [sx]) := ⟨_, rfl, (hf 36 (by decide) (by decide))⟩
  have HU9_36 := Lib.hid hu36
  clear hu36
  obtain ⟨g37, h37, -⟩ := hf 37 (by decide) (by decide)
  have h38 : f 38 = v6_1 := hf 38 (by decide) (by decide)
  obtain ⟨v9_39, h39, hap39⟩ : ∃ v, f 39 = v ∧ App x32.heap.size 35 (f 36) v (eitU A [sx]) A x42 := ⟨_, rfl, hf 39 (by decide) (by decide)⟩
  rw [h36] at hap39
  have h40 : f 40 = .agg (encU sx).toArray := hf 40 (by decide) (by decide)
  obtain ⟨g41, h41, hg41⟩ := hf 41 (by decide) (by decide)
  clear hf hap
  clear zsz z70 z7 z9 z10 z12
  subst ha0
  simp only [slotsSz32n, putAll, h32, h33, h34, h35, h36, h37, h38, h39, h40, h41, Act.put, List.setIfInBounds_toArray, List.set_cons_zero, List.set_cons_succ]
  clear h32 h33 h34 h35 h36 h37 h38 h39 h40 h41
  refine rest_one (by kernel_rfl) (by kernel_rfl) (by decide) ?_
  refine wpOp_step rfl (by kernel_rfl) (fun K hK => wp_app1_x x32.heap.size 52 35 elRef (.tmp 78) (.tmp 80) rfl v9_36 v9_39 (eitU A [sx]) A hap39 rfl g41 sx rfl hg41 (by have := HlA.out; omega) hS.size ?_)
  intro v81 x43 hu81 hu75 hbb
  refine hK _ _ ?_
  clear hK
  replace hS := hS.trans hbb
  clear hbb hap39 hg41 HU9_36
  have HU9_36 := Lib.hid hu75
  have HU81 := Lib.hid hu81
  clear hu75 hu81
  try simp only [Act.put, List.setIfInBounds_toArray, List.set_cons_zero, List.set_cons_succ]
  replace HX1 := Lib.hid (HX1.out.keepB hS)
  replace HU5_1 := Lib.hid (HU5_1.out.keep hS)
  replace HU5_3 := Lib.hid (HU5_3.out.keep hS)
  replace HX_b5_5 := Lib.hid (HX_b5_5.out.keepB hS)
  replace HU6_1 := Lib.hid (HU6_1.out.keep hS)
  replace HU6_3 := Lib.hid (HU6_3.out.keep hS)
  replace HX_b6_5 := Lib.hid (HX_b6_5.out.keepB hS)
  replace HU7_1 := Lib.hid (HU7_1.out.keep hS)
  replace HB := Lib.hid (HB.out.trans (hS.mono HB.out.size))
  clear hS
  refine rest_act (fun a0 ha0 => ?_)
  have zsz : a0.tmps.size = 138 := by rw [ha0]; rfl
  have z71 : a0.eval (.tmp 71) = .bool true := by rw [ha0]; rfl
  have z81 : a0.eval (.tmp 81) = v81 := by rw [ha0]; rfl
  have z75 : a0.eval (.tmp 75) = v9_36 := by rw [ha0]; rfl
  refine rest_stage (E := Flz) 43 46 [] slotsSz43n waitSz43n [Fct.obj 43 (fun v w => Us w v (srt (A ++ [sx]))) (fun _ _ _ h he => h.flz he), Fct.val Flz 44 (.bool true), Fct.val Flz 45 (.bool true)] (fun w' => Below x43.heap.size x43 w') _ chkSz43n (by kernel_rfl) (by kernel_rfl) ⟨by decide, by decide⟩ (by decide) (Below.refl _ _) ?_ ?_
  · refine lt_t (lt_t (lt_t (lt_b) ?_) ?_) ?_
    · intro f w1 hS hf
      generalize hA : putAll _ _ f = aA
      have t71 : aA.tmps[71]? = some (.bool true) := by rw [← hA]; exact putAll_offT f 71 slotsSz43n a0 (by kernel_rfl) zsz rfl z71
      have r81 : aA.eval (.tmp 81) = v81 := by rw [← hA]; exact putAll_off f 81 slotsSz43n a0 (by kernel_rfl) z81
      exact stg_call (by decide) rfl ((wanted_of rfl 71 rfl t71).trans rfl) 29 #[(.tmp 81)] _ rfl #[v81] (by simp only [List.map_toArray, List.map_cons, List.map_nil, r81]) (fun w => by kernel_rfl) (fun v w' => Us w' v (srt (A ++ [sx]))) (us_rof (HU81.out.keep hS) HlP.out) (fun v w' hr hb => ⟨hS.trans (hb.mono hS.size), Flz.of hb, (show Us w' (updF f 43 v 43) (srt (A ++ [sx])) by rw [updF_self]; exact hr)⟩)
    · intro f w1 hS hf
      generalize hA : putAll _ _ f = aA
      have t71 : aA.tmps[71]? = some (.bool true) := by rw [← hA]; exact putAll_offT f 71 slotsSz43n a0 (by kernel_rfl) zsz rfl z71
      have r75 : aA.eval (.tmp 75) = v9_36 := by rw [← hA]; exact putAll_off f 75 slotsSz43n a0 (by kernel_rfl) z75
      have hu43 : Us w1 (f 43) (srt (A ++ [sx])) := (hf 43 (by decide) (by decide))
      have e82 : aA.eval (.tmp 82) = f 43 := by rw [← hA]; exact putAll_at f 82 43 slotsSz43n a0 sbSz43n (by kernel_rfl) zsz rfl rfl
      exact stg_call (by decide) rfl ((wanted_of rfl 71 rfl t71).trans rfl) 28 #[(.tmp 75), (.tmp 82)] _ rfl #[v9_36, f 43] (by simp only [List.map_toArray, List.map_cons, List.map_nil, r75, e82]) (fun w => by kernel_rfl) (fun v _ => v = .bool true) (as_anyU (us_rsame (HU9_36.out.keep hS) hu43 HlE.out HlQ.out) (congrArg Value.bool (sy_add A sx))) (fun v w' hr hb => ⟨hS.trans (hb.mono hS.size), Flz.of hb, (updF_self _ _ _).trans hr⟩)
    · intro f w1 hS hf
      generalize hA : putAll _ _ f = aA
      have r71 : aA.eval (.tmp 71) = .bool true := by rw [← hA]; exact putAll_off f 71 slotsSz43n a0 (by kernel_rfl) z71
      have h83 : f 44 = .bool true := hf 44 (by decide) (by decide)
      have r83 : aA.eval (.tmp 83) = .bool true := by rw [← hA]; exact putAll_at f 83 44 slotsSz43n a0 sbSz43n (by kernel_rfl) zsz rfl h83
      exact stg_val (by decide) rfl rfl (.bool true) (ex_pick (.tmp 71) (.tmp 83) _ rfl true r71 ((if_pos rfl).trans r83)) hS (Flz.refl _) (updF_self _ _ _)
  intro f x46 hS hf hap
  obtain ⟨v9_43, h43, hu43⟩ : ∃ v, f 43 = v ∧ Us x46 v (srt (A ++ [sx])) := ⟨_, rfl, (hf 43 (by decide) (by decide))⟩
  clear hu43
  have h44 : f 44 = .bool true := hf 44 (by decide) (by decide)
  have h45 : f 45 = .bool true := hf 45 (by decide) (by decide)
  clear hf hap
  clear zsz z71 z81 z75
  subst ha0
  simp only [slotsSz43n, putAll, h43, h44, h45, Act.put, List.setIfInBounds_toArray, List.set_cons_zero, List.set_cons_succ]
  clear h43 h44 h45
  replace HX1 := Lib.hid (HX1.out.keepB hS)
  replace HU5_1 := Lib.hid (HU5_1.out.keep hS)
  replace HU5_3 := Lib.hid (HU5_3.out.keep hS)
  replace HX_b5_5 := Lib.hid (HX_b5_5.out.keepB hS)
  replace HU6_1 := Lib.hid (HU6_1.out.keep hS)
  replace HU6_3 := Lib.hid (HU6_3.out.keep hS)
  replace HX_b6_5 := Lib.hid (HX_b6_5.out.keepB hS)
  replace HU7_1 := Lib.hid (HU7_1.out.keep hS)
  replace HU9_36 := Lib.hid (HU9_36.out.keep hS)
  replace HU81 := Lib.hid (HU81.out.keep hS)
  replace HB := Lib.hid (HB.out.trans (hS.mono HB.out.size))
  clear hS
  refine rest_act (fun a0 ha0 => ?_)
  have zsz : a0.tmps.size = 138 := by rw [ha0]; rfl
  have z84 : a0.eval (.tmp 84) = .bool true := by rw [ha0]; rfl
  have z7 : a0.eval (.tmp 7) = v5_1 := by rw [ha0]; rfl
  have z8 : a0.eval (.tmp 8) = v5_3 := by rw [ha0]; rfl
  have z10 : a0.eval (.tmp 10) = v6_1 := by rw [ha0]; rfl
  have z11 : a0.eval (.tmp 11) = v6_3 := by rw [ha0]; rfl
  refine rest_stage (E := Flz) 46 56 [] slotsSz46n waitSz46n [Fct.val Flz 46 (.bool true), Fct.val Flz 47 (v5_1), Fct.val Flz 48 (v5_3), Fct.obj 49 (fun v w => Us w v (minU A B)) (fun _ _ _ h he => h.flz he), Fct.obj 50 (fun v w => Us w v (minU A B)) (fun _ _ _ h he => h.flz he), Fct.val Flz 51 (v6_1), Fct.val Flz 52 (v6_3), Fct.obj 53 (fun v w => Us w v (minU A B)) (fun _ _ _ h he => h.flz he), Fct.val Flz 54 (.bool true), Fct.val Flz 55 (.bool true)] (fun w' => Below x46.heap.size x46 w') _ chkSz46n (by kernel_rfl) (by kernel_rfl) ⟨by decide, by decide⟩ (by decide) (Below.refl _ _) ?_ ?_
  · refine lt_t (lt_t (lt_t (lt_t (lt_t (lt_t (lt_t (lt_t (lt_t (lt_t (lt_b) ?_) ?_) ?_) ?_) ?_) ?_) ?_) ?_) ?_) ?_
    · intro f w1 hS hf
      generalize hA : putAll _ _ f = aA
      have r84 : aA.eval (.tmp 84) = .bool true := by rw [← hA]; exact putAll_off f 84 slotsSz46n a0 (by kernel_rfl) z84
      exact stg_val (by decide) rfl rfl (.bool true) (ex_move (.tmp 84) rfl r84) hS (Flz.refl _) (updF_self _ _ _)
    · intro f w1 hS hf
      generalize hA : putAll _ _ f = aA
      have g85 : f 46 = .bool true := hf 46 (by decide) (by decide)
      have t85 : aA.tmps[85]? = some (.bool true) := by rw [← hA]; exact putAll_g f 85 46 slotsSz46n a0 sbSz46n (by kernel_rfl) zsz rfl g85
      have r7 : aA.eval (.tmp 7) = v5_1 := by rw [← hA]; exact putAll_off f 7 slotsSz46n a0 (by kernel_rfl) z7
      exact stg_val (by decide) rfl ((wanted_of rfl 85 rfl t85).trans rfl) (v5_1) (ex_move (.tmp 7) rfl r7) hS (Flz.refl _) (updF_self _ _ _)
    · intro f w1 hS hf
      generalize hA : putAll _ _ f = aA
      have g85 : f 46 = .bool true := hf 46 (by decide) (by decide)
      have t85 : aA.tmps[85]? = some (.bool true) := by rw [← hA]; exact putAll_g f 85 46 slotsSz46n a0 sbSz46n (by kernel_rfl) zsz rfl g85
      have r8 : aA.eval (.tmp 8) = v5_3 := by rw [← hA]; exact putAll_off f 8 slotsSz46n a0 (by kernel_rfl) z8
      exact stg_val (by decide) rfl ((wanted_of rfl 85 rfl t85).trans rfl) (v5_3) (ex_move (.tmp 8) rfl r8) hS (Flz.refl _) (updF_self _ _ _)
    · intro f w1 hS hf
      generalize hA : putAll _ _ f = aA
      have g85 : f 46 = .bool true := hf 46 (by decide) (by decide)
      have t85 : aA.tmps[85]? = some (.bool true) := by rw [← hA]; exact putAll_g f 85 46 slotsSz46n a0 sbSz46n (by kernel_rfl) zsz rfl g85
      have h86 : f 47 = v5_1 := hf 47 (by decide) (by decide)
      have r86 : aA.eval (.tmp 86) = v5_1 := by rw [← hA]; exact putAll_at f 86 47 slotsSz46n a0 sbSz46n (by kernel_rfl) zsz rfl h86
      have h87 : f 48 = v5_3 := hf 48 (by decide) (by decide)
      have r87 : aA.eval (.tmp 87) = v5_3 := by rw [← hA]; exact putAll_at f 87 48 slotsSz46n a0 sbSz46n (by kernel_rfl) zsz rfl h87
      exact stg_call (by decide) rfl ((wanted_of rfl 85 rfl t85).trans rfl) 34 #[(.tmp 86), (.tmp 87)] _ rfl #[v5_1, v5_3] (by simp only [List.map_toArray, List.map_cons, List.map_nil, r86, r87]) (fun w => by kernel_rfl) (fun v w' => Us w' v (minU A B)) (us_minus (HU5_1.out.keep hS) (HU5_3.out.keep hS) HlA.out HlB.out) (fun v w' hr hb => ⟨hS.trans (hb.mono hS.size), Flz.of hb, (show Us w' (updF f 49 v 49) (minU A B) by rw [updF_self]; exact hr)⟩)
    · intro f w1 hS hf
      generalize hA : putAll _ _ f = aA
      have g85 : f 46 = .bool true := hf 46 (by decide) (by decide)
      have t85 : aA.tmps[85]? = some (.bool true) := by rw [← hA]; exact putAll_g f 85 46 slotsSz46n a0 sbSz46n (by kernel_rfl) zsz rfl g85
      have hu49 : Us w1 (f 49) (minU A B) := (hf 49 (by decide) (by decide))
      have e88 : aA.eval (.tmp 88) = f 49 := by rw [← hA]; exact putAll_at f 88 49 slotsSz46n a0 sbSz46n (by kernel_rfl) zsz rfl rfl
      exact stg_call (by decide) rfl ((wanted_of rfl 85 rfl t85).trans rfl) 25 #[(.tmp 88)] _ rfl #[f 49] (by simp only [List.map_toArray, List.map_cons, List.map_nil, e88]) (fun w => by kernel_rfl) (fun v w' => Us w' v (minU A B)) (us_own hu49 HlM.out) (fun v w' hr hb => ⟨hS.trans (hb.mono hS.size), Flz.of hb, (show Us w' (updF f 50 v 50) (minU A B) by rw [updF_self]; exact hr)⟩)
    · intro f w1 hS hf
      generalize hA : putAll _ _ f = aA
      have g85 : f 46 = .bool true := hf 46 (by decide) (by decide)
      have t85 : aA.tmps[85]? = some (.bool true) := by rw [← hA]; exact putAll_g f 85 46 slotsSz46n a0 sbSz46n (by kernel_rfl) zsz rfl g85
      have r10 : aA.eval (.tmp 10) = v6_1 := by rw [← hA]; exact putAll_off f 10 slotsSz46n a0 (by kernel_rfl) z10
      exact stg_val (by decide) rfl ((wanted_of rfl 85 rfl t85).trans rfl) (v6_1) (ex_move (.tmp 10) rfl r10) hS (Flz.refl _) (updF_self _ _ _)
    · intro f w1 hS hf
      generalize hA : putAll _ _ f = aA
      have g85 : f 46 = .bool true := hf 46 (by decide) (by decide)
      have t85 : aA.tmps[85]? = some (.bool true) := by rw [← hA]; exact putAll_g f 85 46 slotsSz46n a0 sbSz46n (by kernel_rfl) zsz rfl g85
      have r11 : aA.eval (.tmp 11) = v6_3 := by rw [← hA]; exact putAll_off f 11 slotsSz46n a0 (by kernel_rfl) z11
      exact stg_val (by decide) rfl ((wanted_of rfl 85 rfl t85).trans rfl) (v6_3) (ex_move (.tmp 11) rfl r11) hS (Flz.refl _) (updF_self _ _ _)
    · intro f w1 hS hf
      generalize hA : putAll _ _ f = aA
      have g85 : f 46 = .bool true := hf 46 (by decide) (by decide)
      have t85 : aA.tmps[85]? = some (.bool true) := by rw [← hA]; exact putAll_g f 85 46 slotsSz46n a0 sbSz46n (by kernel_rfl) zsz rfl g85
      have h90 : f 51 = v6_1 := hf 51 (by decide) (by decide)
      have r90 : aA.eval (.tmp 90) = v6_1 := by rw [← hA]; exact putAll_at f 90 51 slotsSz46n a0 sbSz46n (by kernel_rfl) zsz rfl h90
      have h91 : f 52 = v6_3 := hf 52 (by decide) (by decide)
      have r91 : aA.eval (.tmp 91) = v6_3 := by rw [← hA]; exact putAll_at f 91 52 slotsSz46n a0 sbSz46n (by kernel_rfl) zsz rfl h91
      exact stg_call (by decide) rfl ((wanted_of rfl 85 rfl t85).trans rfl) 35 #[(.tmp 90), (.tmp 91)] _ rfl #[v6_1, v6_3] (by simp only [List.map_toArray, List.map_cons, List.map_nil, r90, r91]) (fun w => by kernel_rfl) (fun v w' => Us w' v (minU A B)) (us_rminus (HU6_1.out.keep hS) (HU6_3.out.keep hS) HlA.out HlB.out) (fun v w' hr hb => ⟨hS.trans (hb.mono hS.size), Flz.of hb, (show Us w' (updF f 53 v 53) (minU A B) by rw [updF_self]; exact hr)⟩)
    · intro f w1 hS hf
      generalize hA : putAll _ _ f = aA
      have g85 : f 46 = .bool true := hf 46 (by decide) (by decide)
      have t85 : aA.tmps[85]? = some (.bool true) := by rw [← hA]; exact putAll_g f 85 46 slotsSz46n a0 sbSz46n (by kernel_rfl) zsz rfl g85
      have hu50 : Us w1 (f 50) (minU A B) := (hf 50 (by decide) (by decide))
      have e89 : aA.eval (.tmp 89) = f 50 := by rw [← hA]; exact putAll_at f 89 50 slotsSz46n a0 sbSz46n (by kernel_rfl) zsz rfl rfl
      have hu53 : Us w1 (f 53) (minU A B) := (hf 53 (by decide) (by decide))
      have e92 : aA.eval (.tmp 92) = f 53 := by rw [← hA]; exact putAll_at f 92 53 slotsSz46n a0 sbSz46n (by kernel_rfl) zsz rfl rfl
      exact stg_call (by decide) rfl ((wanted_of rfl 85 rfl t85).trans rfl) 28 #[(.tmp 89), (.tmp 92)] _ rfl #[f 50, f 53] (by simp only [List.map_toArray, List.map_cons, List.map_nil, e89, e92]) (fun w => by kernel_rfl) (fun v _ => v = .bool true) (as_anyU (us_rsame hu50 hu53 HlM.out HlM.out) (congrArg Value.bool (decide_eq_true (rfl : minU A B = minU A B)))) (fun v w' hr hb => ⟨hS.trans (hb.mono hS.size), Flz.of hb, (updF_self _ _ _).trans hr⟩)
    · intro f w1 hS hf
      generalize hA : putAll _ _ f = aA
      have h85 : f 46 = .bool true := hf 46 (by decide) (by decide)
      have r85 : aA.eval (.tmp 85) = .bool true := by rw [← hA]; exact putAll_at f 85 46 slotsSz46n a0 sbSz46n (by kernel_rfl) zsz rfl h85
      have h93 : f 54 = .bool true := hf 54 (by decide) (by decide)
      have r93 : aA.eval (.tmp 93) = .bool true := by rw [← hA]; exact putAll_at f 93 54 slotsSz46n a0 sbSz46n (by kernel_rfl) zsz rfl h93
      exact stg_val (by decide) rfl rfl (.bool true) (ex_pick (.tmp 85) (.tmp 93) _ rfl true r85 ((if_pos rfl).trans r93)) hS (Flz.refl _) (updF_self _ _ _)
  intro f x56 hS hf hap
  have h46 : f 46 = .bool true := hf 46 (by decide) (by decide)
  have h47 : f 47 = v5_1 := hf 47 (by decide) (by decide)
  have h48 : f 48 = v5_3 := hf 48 (by decide) (by decide)
  obtain ⟨v9_49, h49, hu49⟩ : ∃ v, f 49 = v ∧ Us x56 v (minU A B) := ⟨_, rfl, (hf 49 (by decide) (by decide))⟩
  clear hu49
  obtain ⟨v9_50, h50, hu50⟩ : ∃ v, f 50 = v ∧ Us x56 v (minU A B) := ⟨_, rfl, (hf 50 (by decide) (by decide))⟩
  clear hu50
  have h51 : f 51 = v6_1 := hf 51 (by decide) (by decide)
  have h52 : f 52 = v6_3 := hf 52 (by decide) (by decide)
  obtain ⟨v9_53, h53, hu53⟩ : ∃ v, f 53 = v ∧ Us x56 v (minU A B) := ⟨_, rfl, (hf 53 (by decide) (by decide))⟩
  clear hu53
  have h54 : f 54 = .bool true := hf 54 (by decide) (by decide)
  have h55 : f 55 = .bool true := hf 55 (by decide) (by decide)
  clear hf hap
  clear zsz z84 z7 z8 z10 z11
  subst ha0
  simp only [slotsSz46n, putAll, h46, h47, h48, h49, h50, h51, h52, h53, h54, h55, Act.put, List.setIfInBounds_toArray, List.set_cons_zero, List.set_cons_succ]
  clear h46 h47 h48 h49 h50 h51 h52 h53 h54 h55
  replace HX1 := Lib.hid (HX1.out.keepB hS)
  replace HU5_1 := Lib.hid (HU5_1.out.keep hS)
  replace HU5_3 := Lib.hid (HU5_3.out.keep hS)
  replace HX_b5_5 := Lib.hid (HX_b5_5.out.keepB hS)
  replace HU6_1 := Lib.hid (HU6_1.out.keep hS)
  replace HU6_3 := Lib.hid (HU6_3.out.keep hS)
  replace HX_b6_5 := Lib.hid (HX_b6_5.out.keepB hS)
  replace HU7_1 := Lib.hid (HU7_1.out.keep hS)
  replace HU9_36 := Lib.hid (HU9_36.out.keep hS)
  replace HU81 := Lib.hid (HU81.out.keep hS)
  replace HB := Lib.hid (HB.out.trans (hS.mono HB.out.size))
  clear hS
  refine rest_act (fun a0 ha0 => ?_)
  have zsz : a0.tmps.size = 138 := by rw [ha0]; rfl
  have z94 : a0.eval (.tmp 94) = .bool true := by rw [ha0]; rfl
  have z7 : a0.eval (.tmp 7) = v5_1 := by rw [ha0]; rfl
  have z8 : a0.eval (.tmp 8) = v5_3 := by rw [ha0]; rfl
  have z10 : a0.eval (.tmp 10) = v6_1 := by rw [ha0]; rfl
  have z11 : a0.eval (.tmp 11) = v6_3 := by rw [ha0]; rfl
  refine rest_stage (E := Flz) 56 66 [] slotsSz56n waitSz56n [Fct.val Flz 56 (.bool true), Fct.val Flz 57 (v5_1), Fct.val Flz 58 (v5_3), Fct.obj 59 (fun v w => Us w v (botU A B)) (fun _ _ _ h he => h.flz he), Fct.obj 60 (fun v w => Us w v (botU A B)) (fun _ _ _ h he => h.flz he), Fct.val Flz 61 (v6_1), Fct.val Flz 62 (v6_3), Fct.obj 63 (fun v w => Us w v (botU A B)) (fun _ _ _ h he => h.flz he), Fct.val Flz 64 (.bool true), Fct.val Flz 65 (.bool true)] (fun w' => Below x56.heap.size x56 w') _ chkSz56n (by kernel_rfl) (by kernel_rfl) ⟨by decide, by decide⟩ (by decide) (Below.refl _ _) ?_ ?_
  · refine lt_t (lt_t (lt_t (lt_t (lt_t (lt_t (lt_t (lt_t (lt_t (lt_t (lt_b) ?_) ?_) ?_) ?_) ?_) ?_) ?_) ?_) ?_) ?_
    · intro f w1 hS hf
      generalize hA : putAll _ _ f = aA
      have r94 : aA.eval (.tmp 94) = .bool true := by rw [← hA]; exact putAll_off f 94 slotsSz56n a0 (by kernel_rfl) z94
      exact stg_val (by decide) rfl rfl (.bool true) (ex_move (.tmp 94) rfl r94) hS (Flz.refl _) (updF_self _ _ _)
    · intro f w1 hS hf
      generalize hA : putAll _ _ f = aA
      have g95 : f 56 = .bool true := hf 56 (by decide) (by decide)
      have t95 : aA.tmps[95]? = some (.bool true) := by rw [← hA]; exact putAll_g f 95 56 slotsSz56n a0 sbSz56n (by kernel_rfl) zsz rfl g95
      have r7 : aA.eval (.tmp 7) = v5_1 := by rw [← hA]; exact putAll_off f 7 slotsSz56n a0 (by kernel_rfl) z7
      exact stg_val (by decide) rfl ((wanted_of rfl 95 rfl t95).trans rfl) (v5_1) (ex_move (.tmp 7) rfl r7) hS (Flz.refl _) (updF_self _ _ _)
    · intro f w1 hS hf
      generalize hA : putAll _ _ f = aA
      have g95 : f 56 = .bool true := hf 56 (by decide) (by decide)
      have t95 : aA.tmps[95]? = some (.bool true) := by rw [← hA]; exact putAll_g f 95 56 slotsSz56n a0 sbSz56n (by kernel_rfl) zsz rfl g95
      have r8 : aA.eval (.tmp 8) = v5_3 := by rw [← hA]; exact putAll_off f 8 slotsSz56n a0 (by kernel_rfl) z8
      exact stg_val (by decide) rfl ((wanted_of rfl 95 rfl t95).trans rfl) (v5_3) (ex_move (.tmp 8) rfl r8) hS (Flz.refl _) (updF_self _ _ _)
    · intro f w1 hS hf
      generalize hA : putAll _ _ f = aA
      have g95 : f 56 = .bool true := hf 56 (by decide) (by decide)
      have t95 : aA.tmps[95]? = some (.bool true) := by rw [← hA]; exact putAll_g f 95 56 slotsSz56n a0 sbSz56n (by kernel_rfl) zsz rfl g95
      have h96 : f 57 = v5_1 := hf 57 (by decide) (by decide)
      have r96 : aA.eval (.tmp 96) = v5_1 := by rw [← hA]; exact putAll_at f 96 57 slotsSz56n a0 sbSz56n (by kernel_rfl) zsz rfl h96
      have h97 : f 58 = v5_3 := hf 58 (by decide) (by decide)
      have r97 : aA.eval (.tmp 97) = v5_3 := by rw [← hA]; exact putAll_at f 97 58 slotsSz56n a0 sbSz56n (by kernel_rfl) zsz rfl h97
      exact stg_call (by decide) rfl ((wanted_of rfl 95 rfl t95).trans rfl) 36 #[(.tmp 96), (.tmp 97)] _ rfl #[v5_1, v5_3] (by simp only [List.map_toArray, List.map_cons, List.map_nil, r96, r97]) (fun w => by kernel_rfl) (fun v w' => Us w' v (botU A B)) (us_both (HU5_1.out.keep hS) (HU5_3.out.keep hS) HlA.out HlB.out) (fun v w' hr hb => ⟨hS.trans (hb.mono hS.size), Flz.of hb, (show Us w' (updF f 59 v 59) (botU A B) by rw [updF_self]; exact hr)⟩)
    · intro f w1 hS hf
      generalize hA : putAll _ _ f = aA
      have g95 : f 56 = .bool true := hf 56 (by decide) (by decide)
      have t95 : aA.tmps[95]? = some (.bool true) := by rw [← hA]; exact putAll_g f 95 56 slotsSz56n a0 sbSz56n (by kernel_rfl) zsz rfl g95
      have hu59 : Us w1 (f 59) (botU A B) := (hf 59 (by decide) (by decide))
      have e98 : aA.eval (.tmp 98) = f 59 := by rw [← hA]; exact putAll_at f 98 59 slotsSz56n a0 sbSz56n (by kernel_rfl) zsz rfl rfl
      exact stg_call (by decide) rfl ((wanted_of rfl 95 rfl t95).trans rfl) 25 #[(.tmp 98)] _ rfl #[f 59] (by simp only [List.map_toArray, List.map_cons, List.map_nil, e98]) (fun w => by kernel_rfl) (fun v w' => Us w' v (botU A B)) (us_own hu59 HlO.out) (fun v w' hr hb => ⟨hS.trans (hb.mono hS.size), Flz.of hb, (show Us w' (updF f 60 v 60) (botU A B) by rw [updF_self]; exact hr)⟩)
    · intro f w1 hS hf
      generalize hA : putAll _ _ f = aA
      have g95 : f 56 = .bool true := hf 56 (by decide) (by decide)
      have t95 : aA.tmps[95]? = some (.bool true) := by rw [← hA]; exact putAll_g f 95 56 slotsSz56n a0 sbSz56n (by kernel_rfl) zsz rfl g95
      have r10 : aA.eval (.tmp 10) = v6_1 := by rw [← hA]; exact putAll_off f 10 slotsSz56n a0 (by kernel_rfl) z10
      exact stg_val (by decide) rfl ((wanted_of rfl 95 rfl t95).trans rfl) (v6_1) (ex_move (.tmp 10) rfl r10) hS (Flz.refl _) (updF_self _ _ _)
    · intro f w1 hS hf
      generalize hA : putAll _ _ f = aA
      have g95 : f 56 = .bool true := hf 56 (by decide) (by decide)
      have t95 : aA.tmps[95]? = some (.bool true) := by rw [← hA]; exact putAll_g f 95 56 slotsSz56n a0 sbSz56n (by kernel_rfl) zsz rfl g95
      have r11 : aA.eval (.tmp 11) = v6_3 := by rw [← hA]; exact putAll_off f 11 slotsSz56n a0 (by kernel_rfl) z11
      exact stg_val (by decide) rfl ((wanted_of rfl 95 rfl t95).trans rfl) (v6_3) (ex_move (.tmp 11) rfl r11) hS (Flz.refl _) (updF_self _ _ _)
    · intro f w1 hS hf
      generalize hA : putAll _ _ f = aA
      have g95 : f 56 = .bool true := hf 56 (by decide) (by decide)
      have t95 : aA.tmps[95]? = some (.bool true) := by rw [← hA]; exact putAll_g f 95 56 slotsSz56n a0 sbSz56n (by kernel_rfl) zsz rfl g95
      have h100 : f 61 = v6_1 := hf 61 (by decide) (by decide)
      have r100 : aA.eval (.tmp 100) = v6_1 := by rw [← hA]; exact putAll_at f 100 61 slotsSz56n a0 sbSz56n (by kernel_rfl) zsz rfl h100
      have h101 : f 62 = v6_3 := hf 62 (by decide) (by decide)
      have r101 : aA.eval (.tmp 101) = v6_3 := by rw [← hA]; exact putAll_at f 101 62 slotsSz56n a0 sbSz56n (by kernel_rfl) zsz rfl h101
      exact stg_call (by decide) rfl ((wanted_of rfl 95 rfl t95).trans rfl) 37 #[(.tmp 100), (.tmp 101)] _ rfl #[v6_1, v6_3] (by simp only [List.map_toArray, List.map_cons, List.map_nil, r100, r101]) (fun w => by kernel_rfl) (fun v w' => Us w' v (botU A B)) (us_rboth (HU6_1.out.keep hS) (HU6_3.out.keep hS) HlA.out HlB.out) (fun v w' hr hb => ⟨hS.trans (hb.mono hS.size), Flz.of hb, (show Us w' (updF f 63 v 63) (botU A B) by rw [updF_self]; exact hr)⟩)
    · intro f w1 hS hf
      generalize hA : putAll _ _ f = aA
      have g95 : f 56 = .bool true := hf 56 (by decide) (by decide)
      have t95 : aA.tmps[95]? = some (.bool true) := by rw [← hA]; exact putAll_g f 95 56 slotsSz56n a0 sbSz56n (by kernel_rfl) zsz rfl g95
      have hu60 : Us w1 (f 60) (botU A B) := (hf 60 (by decide) (by decide))
      have e99 : aA.eval (.tmp 99) = f 60 := by rw [← hA]; exact putAll_at f 99 60 slotsSz56n a0 sbSz56n (by kernel_rfl) zsz rfl rfl
      have hu63 : Us w1 (f 63) (botU A B) := (hf 63 (by decide) (by decide))
      have e102 : aA.eval (.tmp 102) = f 63 := by rw [← hA]; exact putAll_at f 102 63 slotsSz56n a0 sbSz56n (by kernel_rfl) zsz rfl rfl
      exact stg_call (by decide) rfl ((wanted_of rfl 95 rfl t95).trans rfl) 28 #[(.tmp 99), (.tmp 102)] _ rfl #[f 60, f 63] (by simp only [List.map_toArray, List.map_cons, List.map_nil, e99, e102]) (fun w => by kernel_rfl) (fun v _ => v = .bool true) (as_anyU (us_rsame hu60 hu63 HlO.out HlO.out) (congrArg Value.bool (decide_eq_true (rfl : botU A B = botU A B)))) (fun v w' hr hb => ⟨hS.trans (hb.mono hS.size), Flz.of hb, (updF_self _ _ _).trans hr⟩)
    · intro f w1 hS hf
      generalize hA : putAll _ _ f = aA
      have h95 : f 56 = .bool true := hf 56 (by decide) (by decide)
      have r95 : aA.eval (.tmp 95) = .bool true := by rw [← hA]; exact putAll_at f 95 56 slotsSz56n a0 sbSz56n (by kernel_rfl) zsz rfl h95
      have h103 : f 64 = .bool true := hf 64 (by decide) (by decide)
      have r103 : aA.eval (.tmp 103) = .bool true := by rw [← hA]; exact putAll_at f 103 64 slotsSz56n a0 sbSz56n (by kernel_rfl) zsz rfl h103
      exact stg_val (by decide) rfl rfl (.bool true) (ex_pick (.tmp 95) (.tmp 103) _ rfl true r95 ((if_pos rfl).trans r103)) hS (Flz.refl _) (updF_self _ _ _)
  intro f x66 hS hf hap
  have h56 : f 56 = .bool true := hf 56 (by decide) (by decide)
  have h57 : f 57 = v5_1 := hf 57 (by decide) (by decide)
  have h58 : f 58 = v5_3 := hf 58 (by decide) (by decide)
  obtain ⟨v9_59, h59, hu59⟩ : ∃ v, f 59 = v ∧ Us x66 v (botU A B) := ⟨_, rfl, (hf 59 (by decide) (by decide))⟩
  clear hu59
  obtain ⟨v9_60, h60, hu60⟩ : ∃ v, f 60 = v ∧ Us x66 v (botU A B) := ⟨_, rfl, (hf 60 (by decide) (by decide))⟩
  clear hu60
  have h61 : f 61 = v6_1 := hf 61 (by decide) (by decide)
  have h62 : f 62 = v6_3 := hf 62 (by decide) (by decide)
  obtain ⟨v9_63, h63, hu63⟩ : ∃ v, f 63 = v ∧ Us x66 v (botU A B) := ⟨_, rfl, (hf 63 (by decide) (by decide))⟩
  clear hu63
  have h64 : f 64 = .bool true := hf 64 (by decide) (by decide)
  have h65 : f 65 = .bool true := hf 65 (by decide) (by decide)
  clear hf hap
  clear zsz z94 z7 z8 z10 z11
  subst ha0
  simp only [slotsSz56n, putAll, h56, h57, h58, h59, h60, h61, h62, h63, h64, h65, Act.put, List.setIfInBounds_toArray, List.set_cons_zero, List.set_cons_succ]
  clear h56 h57 h58 h59 h60 h61 h62 h63 h64 h65
  replace HX1 := Lib.hid (HX1.out.keepB hS)
  replace HU5_1 := Lib.hid (HU5_1.out.keep hS)
  replace HU5_3 := Lib.hid (HU5_3.out.keep hS)
  replace HX_b5_5 := Lib.hid (HX_b5_5.out.keepB hS)
  replace HU6_1 := Lib.hid (HU6_1.out.keep hS)
  replace HU6_3 := Lib.hid (HU6_3.out.keep hS)
  replace HX_b6_5 := Lib.hid (HX_b6_5.out.keepB hS)
  replace HU7_1 := Lib.hid (HU7_1.out.keep hS)
  replace HU9_36 := Lib.hid (HU9_36.out.keep hS)
  replace HU81 := Lib.hid (HU81.out.keep hS)
  replace HB := Lib.hid (HB.out.trans (hS.mono HB.out.size))
  clear hS
  refine rest_act (fun a0 ha0 => ?_)
  have zsz : a0.tmps.size = 138 := by rw [ha0]; rfl
  have z104 : a0.eval (.tmp 104) = .bool true := by rw [ha0]; rfl
  have z7 : a0.eval (.tmp 7) = v5_1 := by rw [ha0]; rfl
  have z8 : a0.eval (.tmp 8) = v5_3 := by rw [ha0]; rfl
  have z10 : a0.eval (.tmp 10) = v6_1 := by rw [ha0]; rfl
  have z11 : a0.eval (.tmp 11) = v6_3 := by rw [ha0]; rfl
  refine rest_stage (E := Flz) 66 76 [] slotsSz66n waitSz66n [Fct.val Flz 66 (.bool true), Fct.val Flz 67 (v5_1), Fct.val Flz 68 (v5_3), Fct.obj 69 (fun v w => Us w v (eitU A B)) (fun _ _ _ h he => h.flz he), Fct.obj 70 (fun v w => Us w v (eitU A B)) (fun _ _ _ h he => h.flz he), Fct.val Flz 71 (v6_1), Fct.val Flz 72 (v6_3), Fct.obj 73 (fun v w => Us w v (eitU A B)) (fun _ _ _ h he => h.flz he), Fct.val Flz 74 (.bool true), Fct.val Flz 75 (.bool true)] (fun w' => Below x66.heap.size x66 w') _ chkSz66n (by kernel_rfl) (by kernel_rfl) ⟨by decide, by decide⟩ (by decide) (Below.refl _ _) ?_ ?_
  · refine lt_t (lt_t (lt_t (lt_t (lt_t (lt_t (lt_t (lt_t (lt_t (lt_t (lt_b) ?_) ?_) ?_) ?_) ?_) ?_) ?_) ?_) ?_) ?_
    · intro f w1 hS hf
      generalize hA : putAll _ _ f = aA
      have r104 : aA.eval (.tmp 104) = .bool true := by rw [← hA]; exact putAll_off f 104 slotsSz66n a0 (by kernel_rfl) z104
      exact stg_val (by decide) rfl rfl (.bool true) (ex_move (.tmp 104) rfl r104) hS (Flz.refl _) (updF_self _ _ _)
    · intro f w1 hS hf
      generalize hA : putAll _ _ f = aA
      have g105 : f 66 = .bool true := hf 66 (by decide) (by decide)
      have t105 : aA.tmps[105]? = some (.bool true) := by rw [← hA]; exact putAll_g f 105 66 slotsSz66n a0 sbSz66n (by kernel_rfl) zsz rfl g105
      have r7 : aA.eval (.tmp 7) = v5_1 := by rw [← hA]; exact putAll_off f 7 slotsSz66n a0 (by kernel_rfl) z7
      exact stg_val (by decide) rfl ((wanted_of rfl 105 rfl t105).trans rfl) (v5_1) (ex_move (.tmp 7) rfl r7) hS (Flz.refl _) (updF_self _ _ _)
    · intro f w1 hS hf
      generalize hA : putAll _ _ f = aA
      have g105 : f 66 = .bool true := hf 66 (by decide) (by decide)
      have t105 : aA.tmps[105]? = some (.bool true) := by rw [← hA]; exact putAll_g f 105 66 slotsSz66n a0 sbSz66n (by kernel_rfl) zsz rfl g105
      have r8 : aA.eval (.tmp 8) = v5_3 := by rw [← hA]; exact putAll_off f 8 slotsSz66n a0 (by kernel_rfl) z8
      exact stg_val (by decide) rfl ((wanted_of rfl 105 rfl t105).trans rfl) (v5_3) (ex_move (.tmp 8) rfl r8) hS (Flz.refl _) (updF_self _ _ _)
    · intro f w1 hS hf
      generalize hA : putAll _ _ f = aA
      have g105 : f 66 = .bool true := hf 66 (by decide) (by decide)
      have t105 : aA.tmps[105]? = some (.bool true) := by rw [← hA]; exact putAll_g f 105 66 slotsSz66n a0 sbSz66n (by kernel_rfl) zsz rfl g105
      have h106 : f 67 = v5_1 := hf 67 (by decide) (by decide)
      have r106 : aA.eval (.tmp 106) = v5_1 := by rw [← hA]; exact putAll_at f 106 67 slotsSz66n a0 sbSz66n (by kernel_rfl) zsz rfl h106
      have h107 : f 68 = v5_3 := hf 68 (by decide) (by decide)
      have r107 : aA.eval (.tmp 107) = v5_3 := by rw [← hA]; exact putAll_at f 107 68 slotsSz66n a0 sbSz66n (by kernel_rfl) zsz rfl h107
      exact stg_call (by decide) rfl ((wanted_of rfl 105 rfl t105).trans rfl) 38 #[(.tmp 106), (.tmp 107)] _ rfl #[v5_1, v5_3] (by simp only [List.map_toArray, List.map_cons, List.map_nil, r106, r107]) (fun w => by kernel_rfl) (fun v w' => Us w' v (eitU A B)) (us_either (HU5_1.out.keep hS) (HU5_3.out.keep hS) HlA.out HlB.out) (fun v w' hr hb => ⟨hS.trans (hb.mono hS.size), Flz.of hb, (show Us w' (updF f 69 v 69) (eitU A B) by rw [updF_self]; exact hr)⟩)
    · intro f w1 hS hf
      generalize hA : putAll _ _ f = aA
      have g105 : f 66 = .bool true := hf 66 (by decide) (by decide)
      have t105 : aA.tmps[105]? = some (.bool true) := by rw [← hA]; exact putAll_g f 105 66 slotsSz66n a0 sbSz66n (by kernel_rfl) zsz rfl g105
      have hu69 : Us w1 (f 69) (eitU A B) := (hf 69 (by decide) (by decide))
      have e108 : aA.eval (.tmp 108) = f 69 := by rw [← hA]; exact putAll_at f 108 69 slotsSz66n a0 sbSz66n (by kernel_rfl) zsz rfl rfl
      exact stg_call (by decide) rfl ((wanted_of rfl 105 rfl t105).trans rfl) 25 #[(.tmp 108)] _ rfl #[f 69] (by simp only [List.map_toArray, List.map_cons, List.map_nil, e108]) (fun w => by kernel_rfl) (fun v w' => Us w' v (eitU A B)) (us_own hu69 HlI.out) (fun v w' hr hb => ⟨hS.trans (hb.mono hS.size), Flz.of hb, (show Us w' (updF f 70 v 70) (eitU A B) by rw [updF_self]; exact hr)⟩)
    · intro f w1 hS hf
      generalize hA : putAll _ _ f = aA
      have g105 : f 66 = .bool true := hf 66 (by decide) (by decide)
      have t105 : aA.tmps[105]? = some (.bool true) := by rw [← hA]; exact putAll_g f 105 66 slotsSz66n a0 sbSz66n (by kernel_rfl) zsz rfl g105
      have r10 : aA.eval (.tmp 10) = v6_1 := by rw [← hA]; exact putAll_off f 10 slotsSz66n a0 (by kernel_rfl) z10
      exact stg_val (by decide) rfl ((wanted_of rfl 105 rfl t105).trans rfl) (v6_1) (ex_move (.tmp 10) rfl r10) hS (Flz.refl _) (updF_self _ _ _)
    · intro f w1 hS hf
      generalize hA : putAll _ _ f = aA
      have g105 : f 66 = .bool true := hf 66 (by decide) (by decide)
      have t105 : aA.tmps[105]? = some (.bool true) := by rw [← hA]; exact putAll_g f 105 66 slotsSz66n a0 sbSz66n (by kernel_rfl) zsz rfl g105
      have r11 : aA.eval (.tmp 11) = v6_3 := by rw [← hA]; exact putAll_off f 11 slotsSz66n a0 (by kernel_rfl) z11
      exact stg_val (by decide) rfl ((wanted_of rfl 105 rfl t105).trans rfl) (v6_3) (ex_move (.tmp 11) rfl r11) hS (Flz.refl _) (updF_self _ _ _)
    · intro f w1 hS hf
      generalize hA : putAll _ _ f = aA
      have g105 : f 66 = .bool true := hf 66 (by decide) (by decide)
      have t105 : aA.tmps[105]? = some (.bool true) := by rw [← hA]; exact putAll_g f 105 66 slotsSz66n a0 sbSz66n (by kernel_rfl) zsz rfl g105
      have h110 : f 71 = v6_1 := hf 71 (by decide) (by decide)
      have r110 : aA.eval (.tmp 110) = v6_1 := by rw [← hA]; exact putAll_at f 110 71 slotsSz66n a0 sbSz66n (by kernel_rfl) zsz rfl h110
      have h111 : f 72 = v6_3 := hf 72 (by decide) (by decide)
      have r111 : aA.eval (.tmp 111) = v6_3 := by rw [← hA]; exact putAll_at f 111 72 slotsSz66n a0 sbSz66n (by kernel_rfl) zsz rfl h111
      exact stg_call (by decide) rfl ((wanted_of rfl 105 rfl t105).trans rfl) 39 #[(.tmp 110), (.tmp 111)] _ rfl #[v6_1, v6_3] (by simp only [List.map_toArray, List.map_cons, List.map_nil, r110, r111]) (fun w => by kernel_rfl) (fun v w' => Us w' v (eitU A B)) (us_reither (HU6_1.out.keep hS) (HU6_3.out.keep hS) HlA.out HlB.out) (fun v w' hr hb => ⟨hS.trans (hb.mono hS.size), Flz.of hb, (show Us w' (updF f 73 v 73) (eitU A B) by rw [updF_self]; exact hr)⟩)
    · intro f w1 hS hf
      generalize hA : putAll _ _ f = aA
      have g105 : f 66 = .bool true := hf 66 (by decide) (by decide)
      have t105 : aA.tmps[105]? = some (.bool true) := by rw [← hA]; exact putAll_g f 105 66 slotsSz66n a0 sbSz66n (by kernel_rfl) zsz rfl g105
      have hu70 : Us w1 (f 70) (eitU A B) := (hf 70 (by decide) (by decide))
      have e109 : aA.eval (.tmp 109) = f 70 := by rw [← hA]; exact putAll_at f 109 70 slotsSz66n a0 sbSz66n (by kernel_rfl) zsz rfl rfl
      have hu73 : Us w1 (f 73) (eitU A B) := (hf 73 (by decide) (by decide))
      have e112 : aA.eval (.tmp 112) = f 73 := by rw [← hA]; exact putAll_at f 112 73 slotsSz66n a0 sbSz66n (by kernel_rfl) zsz rfl rfl
      exact stg_call (by decide) rfl ((wanted_of rfl 105 rfl t105).trans rfl) 28 #[(.tmp 109), (.tmp 112)] _ rfl #[f 70, f 73] (by simp only [List.map_toArray, List.map_cons, List.map_nil, e109, e112]) (fun w => by kernel_rfl) (fun v _ => v = .bool true) (as_anyU (us_rsame hu70 hu73 HlI.out HlI.out) (congrArg Value.bool (decide_eq_true (rfl : eitU A B = eitU A B)))) (fun v w' hr hb => ⟨hS.trans (hb.mono hS.size), Flz.of hb, (updF_self _ _ _).trans hr⟩)
    · intro f w1 hS hf
      generalize hA : putAll _ _ f = aA
      have h105 : f 66 = .bool true := hf 66 (by decide) (by decide)
      have r105 : aA.eval (.tmp 105) = .bool true := by rw [← hA]; exact putAll_at f 105 66 slotsSz66n a0 sbSz66n (by kernel_rfl) zsz rfl h105
      have h113 : f 74 = .bool true := hf 74 (by decide) (by decide)
      have r113 : aA.eval (.tmp 113) = .bool true := by rw [← hA]; exact putAll_at f 113 74 slotsSz66n a0 sbSz66n (by kernel_rfl) zsz rfl h113
      exact stg_val (by decide) rfl rfl (.bool true) (ex_pick (.tmp 105) (.tmp 113) _ rfl true r105 ((if_pos rfl).trans r113)) hS (Flz.refl _) (updF_self _ _ _)
  intro f x76 hS hf hap
  have h66 : f 66 = .bool true := hf 66 (by decide) (by decide)
  have h67 : f 67 = v5_1 := hf 67 (by decide) (by decide)
  have h68 : f 68 = v5_3 := hf 68 (by decide) (by decide)
  obtain ⟨v9_69, h69, hu69⟩ : ∃ v, f 69 = v ∧ Us x76 v (eitU A B) := ⟨_, rfl, (hf 69 (by decide) (by decide))⟩
  clear hu69
  obtain ⟨v9_70, h70, hu70⟩ : ∃ v, f 70 = v ∧ Us x76 v (eitU A B) := ⟨_, rfl, (hf 70 (by decide) (by decide))⟩
  clear hu70
  have h71 : f 71 = v6_1 := hf 71 (by decide) (by decide)
  have h72 : f 72 = v6_3 := hf 72 (by decide) (by decide)
  obtain ⟨v9_73, h73, hu73⟩ : ∃ v, f 73 = v ∧ Us x76 v (eitU A B) := ⟨_, rfl, (hf 73 (by decide) (by decide))⟩
  clear hu73
  have h74 : f 74 = .bool true := hf 74 (by decide) (by decide)
  have h75 : f 75 = .bool true := hf 75 (by decide) (by decide)
  clear hf hap
  clear zsz z104 z7 z8 z10 z11
  subst ha0
  simp only [slotsSz66n, putAll, h66, h67, h68, h69, h70, h71, h72, h73, h74, h75, Act.put, List.setIfInBounds_toArray, List.set_cons_zero, List.set_cons_succ]
  clear h66 h67 h68 h69 h70 h71 h72 h73 h74 h75
  replace HX1 := Lib.hid (HX1.out.keepB hS)
  replace HU5_1 := Lib.hid (HU5_1.out.keep hS)
  replace HU5_3 := Lib.hid (HU5_3.out.keep hS)
  replace HX_b5_5 := Lib.hid (HX_b5_5.out.keepB hS)
  replace HU6_1 := Lib.hid (HU6_1.out.keep hS)
  replace HU6_3 := Lib.hid (HU6_3.out.keep hS)
  replace HX_b6_5 := Lib.hid (HX_b6_5.out.keepB hS)
  replace HU7_1 := Lib.hid (HU7_1.out.keep hS)
  replace HU9_36 := Lib.hid (HU9_36.out.keep hS)
  replace HU81 := Lib.hid (HU81.out.keep hS)
  replace HB := Lib.hid (HB.out.trans (hS.mono HB.out.size))
  clear hS
  refine rest_act (fun a0 ha0 => ?_)
  have zsz : a0.tmps.size = 138 := by rw [ha0]; rfl
  have z114 : a0.eval (.tmp 114) = .bool true := by rw [ha0]; rfl
  have z7 : a0.eval (.tmp 7) = v5_1 := by rw [ha0]; rfl
  have z8 : a0.eval (.tmp 8) = v5_3 := by rw [ha0]; rfl
  have z14 : a0.eval (.tmp 14) = .bool false := by rw [ha0]; rfl
  refine rest_stage (E := Flz) 76 92 [] slotsSz76n waitSz76n [Fct.val Flz 76 (.bool true), Fct.val Flz 77 (v5_1), Fct.val Flz 78 (v5_3), Fct.val Flz 79 (.bool false), Fct.val Flz 80 (.bool false), Fct.val Flz 81 (.bool false), Fct.val Flz 82 (undef), Fct.val Flz 83 (undef), Fct.val Flz 84 (.bool false), Fct.val Flz 85 (.bool false), Fct.val Flz 86 (undef), Fct.val Flz 87 (undef), Fct.val Flz 88 (undef), Fct.val Flz 89 (.bool false), Fct.val Flz 90 (.bool true), Fct.val Flz 91 (.bool true)] (fun w' => Below x76.heap.size x76 w') _ chkSz76n (by kernel_rfl) (by kernel_rfl) ⟨by decide, by decide⟩ (by decide) (Below.refl _ _) ?_ ?_
  · refine lt_t (lt_t (lt_t (lt_t (lt_t (lt_t (lt_t (lt_t (lt_t (lt_t (lt_t (lt_t (lt_t (lt_t (lt_t (lt_t (lt_b) ?_) ?_) ?_) ?_) ?_) ?_) ?_) ?_) ?_) ?_) ?_) ?_) ?_) ?_) ?_) ?_
    · intro f w1 hS hf
      generalize hA : putAll _ _ f = aA
      have r114 : aA.eval (.tmp 114) = .bool true := by rw [← hA]; exact putAll_off f 114 slotsSz76n a0 (by kernel_rfl) z114
      exact stg_val (by decide) rfl rfl (.bool true) (ex_move (.tmp 114) rfl r114) hS (Flz.refl _) (updF_self _ _ _)
    · intro f w1 hS hf
      generalize hA : putAll _ _ f = aA
      have g115 : f 76 = .bool true := hf 76 (by decide) (by decide)
      have t115 : aA.tmps[115]? = some (.bool true) := by rw [← hA]; exact putAll_g f 115 76 slotsSz76n a0 sbSz76n (by kernel_rfl) zsz rfl g115
      have r7 : aA.eval (.tmp 7) = v5_1 := by rw [← hA]; exact putAll_off f 7 slotsSz76n a0 (by kernel_rfl) z7
      exact stg_val (by decide) rfl ((wanted_of rfl 115 rfl t115).trans rfl) (v5_1) (ex_move (.tmp 7) rfl r7) hS (Flz.refl _) (updF_self _ _ _)
    · intro f w1 hS hf
      generalize hA : putAll _ _ f = aA
      have g115 : f 76 = .bool true := hf 76 (by decide) (by decide)
      have t115 : aA.tmps[115]? = some (.bool true) := by rw [← hA]; exact putAll_g f 115 76 slotsSz76n a0 sbSz76n (by kernel_rfl) zsz rfl g115
      have r8 : aA.eval (.tmp 8) = v5_3 := by rw [← hA]; exact putAll_off f 8 slotsSz76n a0 (by kernel_rfl) z8
      exact stg_val (by decide) rfl ((wanted_of rfl 115 rfl t115).trans rfl) (v5_3) (ex_move (.tmp 8) rfl r8) hS (Flz.refl _) (updF_self _ _ _)
    · intro f w1 hS hf
      generalize hA : putAll _ _ f = aA
      have g115 : f 76 = .bool true := hf 76 (by decide) (by decide)
      have t115 : aA.tmps[115]? = some (.bool true) := by rw [← hA]; exact putAll_g f 115 76 slotsSz76n a0 sbSz76n (by kernel_rfl) zsz rfl g115
      have h116 : f 77 = v5_1 := hf 77 (by decide) (by decide)
      have r116 : aA.eval (.tmp 116) = v5_1 := by rw [← hA]; exact putAll_at f 116 77 slotsSz76n a0 sbSz76n (by kernel_rfl) zsz rfl h116
      have h117 : f 78 = v5_3 := hf 78 (by decide) (by decide)
      have r117 : aA.eval (.tmp 117) = v5_3 := by rw [← hA]; exact putAll_at f 117 78 slotsSz76n a0 sbSz76n (by kernel_rfl) zsz rfl h117
      exact stg_call (by decide) rfl ((wanted_of rfl 115 rfl t115).trans rfl) 40 #[(.tmp 116), (.tmp 117)] _ rfl #[v5_1, v5_3] (by simp only [List.map_toArray, List.map_cons, List.map_nil, r116, r117]) (fun w => by kernel_rfl) (fun v _ => v = .bool false) (as_anyU (us_same (HU5_1.out.keep hS) (HU5_3.out.keep hS) HlA.out HlB.out) (congrArg Value.bool (show (goodU A && decide (A = B)) = false by rw [hgA]; rfl))) (fun v w' hr hb => ⟨hS.trans (hb.mono hS.size), Flz.of hb, (updF_self _ _ _).trans hr⟩)
    · intro f w1 hS hf
      generalize hA : putAll _ _ f = aA
      have g115 : f 76 = .bool true := hf 76 (by decide) (by decide)
      have t115 : aA.tmps[115]? = some (.bool true) := by rw [← hA]; exact putAll_g f 115 76 slotsSz76n a0 sbSz76n (by kernel_rfl) zsz rfl g115
      have r14 : aA.eval (.tmp 14) = .bool false := by rw [← hA]; exact putAll_off f 14 slotsSz76n a0 (by kernel_rfl) z14
      exact stg_val (by decide) rfl ((wanted_of rfl 115 rfl t115).trans rfl) (.bool false) (ex_move (.tmp 14) rfl r14) hS (Flz.refl _) (updF_self _ _ _)
    · intro f w1 hS hf
      generalize hA : putAll _ _ f = aA
      have g115 : f 76 = .bool true := hf 76 (by decide) (by decide)
      have t115 : aA.tmps[115]? = some (.bool true) := by rw [← hA]; exact putAll_g f 115 76 slotsSz76n a0 sbSz76n (by kernel_rfl) zsz rfl g115
      have h119 : f 80 = .bool false := hf 80 (by decide) (by decide)
      have r119 : aA.eval (.tmp 119) = .bool false := by rw [← hA]; exact putAll_at f 119 80 slotsSz76n a0 sbSz76n (by kernel_rfl) zsz rfl h119
      exact stg_val (by decide) rfl ((wanted_of rfl 115 rfl t115).trans rfl) (.bool false) (ex_move (.tmp 119) rfl r119) hS (Flz.refl _) (updF_self _ _ _)
    · intro f w1 hS hf
      generalize hA : putAll _ _ f = aA
      have g120 : f 81 = .bool false := hf 81 (by decide) (by decide)
      have t120 : aA.tmps[120]? = some (.bool false) := by rw [← hA]; exact putAll_g f 120 81 slotsSz76n a0 sbSz76n (by kernel_rfl) zsz rfl g120
      exact stg_skip (by decide) rfl ((wanted_of rfl 120 rfl t120).trans rfl) hS (Flz.refl _) (updF_self _ _ _)
    · intro f w1 hS hf
      generalize hA : putAll _ _ f = aA
      have g120 : f 81 = .bool false := hf 81 (by decide) (by decide)
      have t120 : aA.tmps[120]? = some (.bool false) := by rw [← hA]; exact putAll_g f 120 81 slotsSz76n a0 sbSz76n (by kernel_rfl) zsz rfl g120
      exact stg_skip (by decide) rfl ((wanted_of rfl 120 rfl t120).trans rfl) hS (Flz.refl _) (updF_self _ _ _)
    · intro f w1 hS hf
      generalize hA : putAll _ _ f = aA
      have g115 : f 76 = .bool true := hf 76 (by decide) (by decide)
      have t115 : aA.tmps[115]? = some (.bool true) := by rw [← hA]; exact putAll_g f 115 76 slotsSz76n a0 sbSz76n (by kernel_rfl) zsz rfl g115
      have h120 : f 81 = .bool false := hf 81 (by decide) (by decide)
      have r120 : aA.eval (.tmp 120) = .bool false := by rw [← hA]; exact putAll_at f 120 81 slotsSz76n a0 sbSz76n (by kernel_rfl) zsz rfl h120
      exact stg_val (by decide) rfl ((wanted_of rfl 115 rfl t115).trans rfl) (.bool false) (ex_pick (.tmp 120) (.tmp 122) _ rfl false r120 ((if_neg (by decide)).trans rfl)) hS (Flz.refl _) (updF_self _ _ _)
    · intro f w1 hS hf
      generalize hA : putAll _ _ f = aA
      have g115 : f 76 = .bool true := hf 76 (by decide) (by decide)
      have t115 : aA.tmps[115]? = some (.bool true) := by rw [← hA]; exact putAll_g f 115 76 slotsSz76n a0 sbSz76n (by kernel_rfl) zsz rfl g115
      have h123 : f 84 = .bool false := hf 84 (by decide) (by decide)
      have r123 : aA.eval (.tmp 123) = .bool false := by rw [← hA]; exact putAll_at f 123 84 slotsSz76n a0 sbSz76n (by kernel_rfl) zsz rfl h123
      exact stg_val (by decide) rfl ((wanted_of rfl 115 rfl t115).trans rfl) (.bool false) (ex_move (.tmp 123) rfl r123) hS (Flz.refl _) (updF_self _ _ _)
    · intro f w1 hS hf
      generalize hA : putAll _ _ f = aA
      have g124 : f 85 = .bool false := hf 85 (by decide) (by decide)
      have t124 : aA.tmps[124]? = some (.bool false) := by rw [← hA]; exact putAll_g f 124 85 slotsSz76n a0 sbSz76n (by kernel_rfl) zsz rfl g124
      exact stg_skip (by decide) rfl ((wanted_of rfl 124 rfl t124).trans rfl) hS (Flz.refl _) (updF_self _ _ _)
    · intro f w1 hS hf
      generalize hA : putAll _ _ f = aA
      have g124 : f 85 = .bool false := hf 85 (by decide) (by decide)
      have t124 : aA.tmps[124]? = some (.bool false) := by rw [← hA]; exact putAll_g f 124 85 slotsSz76n a0 sbSz76n (by kernel_rfl) zsz rfl g124
      exact stg_skip (by decide) rfl ((wanted_of rfl 124 rfl t124).trans rfl) hS (Flz.refl _) (updF_self _ _ _)
    · intro f w1 hS hf
      generalize hA : putAll _ _ f = aA
      have g124 : f 85 = .bool false := hf 85 (by decide) (by decide)
      have t124 : aA.tmps[124]? = some (.bool false) := by rw [← hA]; exact putAll_g f 124 85 slotsSz76n a0 sbSz76n (by kernel_rfl) zsz rfl g124
      exact stg_skip (by decide) rfl ((wanted_of rfl 124 rfl t124).trans rfl) hS (Flz.refl _) (updF_self _ _ _)
    · intro f w1 hS hf
      generalize hA : putAll _ _ f = aA
      have g115 : f 76 = .bool true := hf 76 (by decide) (by decide)
      have t115 : aA.tmps[115]? = some (.bool true) := by rw [← hA]; exact putAll_g f 115 76 slotsSz76n a0 sbSz76n (by kernel_rfl) zsz rfl g115
      have h124 : f 85 = .bool false := hf 85 (by decide) (by decide)
      have r124 : aA.eval (.tmp 124) = .bool false := by rw [← hA]; exact putAll_at f 124 85 slotsSz76n a0 sbSz76n (by kernel_rfl) zsz rfl h124
      exact stg_val (by decide) rfl ((wanted_of rfl 115 rfl t115).trans rfl) (.bool false) (ex_pick (.tmp 124) (.tmp 127) _ rfl false r124 ((if_neg (by decide)).trans rfl)) hS (Flz.refl _) (updF_self _ _ _)
    · intro f w1 hS hf
      generalize hA : putAll _ _ f = aA
      have g115 : f 76 = .bool true := hf 76 (by decide) (by decide)
      have t115 : aA.tmps[115]? = some (.bool true) := by rw [← hA]; exact putAll_g f 115 76 slotsSz76n a0 sbSz76n (by kernel_rfl) zsz rfl g115
      have h118 : f 79 = .bool false := hf 79 (by decide) (by decide)
      have r118 : aA.eval (.tmp 118) = .bool false := by rw [← hA]; exact putAll_at f 118 79 slotsSz76n a0 sbSz76n (by kernel_rfl) zsz rfl h118
      have h128 : f 89 = .bool false := hf 89 (by decide) (by decide)
      have r128 : aA.eval (.tmp 128) = .bool false := by rw [← hA]; exact putAll_at f 128 89 slotsSz76n a0 sbSz76n (by kernel_rfl) zsz rfl h128
      exact stg_val (by decide) rfl ((wanted_of rfl 115 rfl t115).trans rfl) (.bool true) (ex_eqB _ _ (.tmp 118) (.tmp 128) rfl (by kernel_rfl) false false r118 r128) hS (Flz.refl _) (updF_self _ _ _)
    · intro f w1 hS hf
      generalize hA : putAll _ _ f = aA
      have h115 : f 76 = .bool true := hf 76 (by decide) (by decide)
      have r115 : aA.eval (.tmp 115) = .bool true := by rw [← hA]; exact putAll_at f 115 76 slotsSz76n a0 sbSz76n (by kernel_rfl) zsz rfl h115
      have h129 : f 90 = .bool true := hf 90 (by decide) (by decide)
      have r129 : aA.eval (.tmp 129) = .bool true := by rw [← hA]; exact putAll_at f 129 90 slotsSz76n a0 sbSz76n (by kernel_rfl) zsz rfl h129
      exact stg_val (by decide) rfl rfl (.bool true) (ex_pick (.tmp 115) (.tmp 129) _ rfl true r115 ((if_pos rfl).trans r129)) hS (Flz.refl _) (updF_self _ _ _)
  intro f x92 hS hf hap
  have h76 : f 76 = .bool true := hf 76 (by decide) (by decide)
  have h77 : f 77 = v5_1 := hf 77 (by decide) (by decide)
  have h78 : f 78 = v5_3 := hf 78 (by decide) (by decide)
  have h79 : f 79 = .bool false := hf 79 (by decide) (by decide)
  have h80 : f 80 = .bool false := hf 80 (by decide) (by decide)
  have h81 : f 81 = .bool false := hf 81 (by decide) (by decide)
  have h82 : f 82 = undef := hf 82 (by decide) (by decide)
  have h83 : f 83 = undef := hf 83 (by decide) (by decide)
  have h84 : f 84 = .bool false := hf 84 (by decide) (by decide)
  have h85 : f 85 = .bool false := hf 85 (by decide) (by decide)
  have h86 : f 86 = undef := hf 86 (by decide) (by decide)
  have h87 : f 87 = undef := hf 87 (by decide) (by decide)
  have h88 : f 88 = undef := hf 88 (by decide) (by decide)
  have h89 : f 89 = .bool false := hf 89 (by decide) (by decide)
  have h90 : f 90 = .bool true := hf 90 (by decide) (by decide)
  have h91 : f 91 = .bool true := hf 91 (by decide) (by decide)
  clear hf hap
  clear zsz z114 z7 z8 z14
  subst ha0
  simp only [slotsSz76n, putAll, h76, h77, h78, h79, h80, h81, h82, h83, h84, h85, h86, h87, h88, h89, h90, h91, Act.put, List.setIfInBounds_toArray, List.set_cons_zero, List.set_cons_succ]
  clear h76 h77 h78 h79 h80 h81 h82 h83 h84 h85 h86 h87 h88 h89 h90 h91
  replace HX1 := Lib.hid (HX1.out.keepB hS)
  replace HU5_1 := Lib.hid (HU5_1.out.keep hS)
  replace HU5_3 := Lib.hid (HU5_3.out.keep hS)
  replace HX_b5_5 := Lib.hid (HX_b5_5.out.keepB hS)
  replace HU6_1 := Lib.hid (HU6_1.out.keep hS)
  replace HU6_3 := Lib.hid (HU6_3.out.keep hS)
  replace HX_b6_5 := Lib.hid (HX_b6_5.out.keepB hS)
  replace HU7_1 := Lib.hid (HU7_1.out.keep hS)
  replace HU9_36 := Lib.hid (HU9_36.out.keep hS)
  replace HU81 := Lib.hid (HU81.out.keep hS)
  replace HB := Lib.hid (HB.out.trans (hS.mono HB.out.size))
  clear hS
  refine rest_act (fun a0 ha0 => ?_)
  have zsz : a0.tmps.size = 138 := by rw [ha0]; rfl
  have z130 : a0.eval (.tmp 130) = .bool true := by rw [ha0]; rfl
  have z7 : a0.eval (.tmp 7) = v5_1 := by rw [ha0]; rfl
  have z10 : a0.eval (.tmp 10) = v6_1 := by rw [ha0]; rfl
  refine rest_stage (E := Flz) 92 100 [] slotsSz92n waitSz92n [Fct.val Flz 92 (.bool true), Fct.val Flz 93 (v5_1), Fct.val Flz 94 (.agg (encU (tellU A)).toArray), Fct.val Flz 95 (v6_1), Fct.val Flz 96 (.agg (encU (tellU A)).toArray), Fct.val Flz 97 (.bool true), Fct.val Flz 98 (.bool true), Fct.val Flz 99 (.bool true)] (fun w' => Below x92.heap.size x92 w') _ chkSz92n (by kernel_rfl) (by kernel_rfl) ⟨by decide, by decide⟩ (by decide) (Below.refl _ _) ?_ ?_
  · refine lt_t (lt_t (lt_t (lt_t (lt_t (lt_t (lt_t (lt_t (lt_b) ?_) ?_) ?_) ?_) ?_) ?_) ?_) ?_
    · intro f w1 hS hf
      generalize hA : putAll _ _ f = aA
      have r130 : aA.eval (.tmp 130) = .bool true := by rw [← hA]; exact putAll_off f 130 slotsSz92n a0 (by kernel_rfl) z130
      exact stg_val (by decide) rfl rfl (.bool true) (ex_move (.tmp 130) rfl r130) hS (Flz.refl _) (updF_self _ _ _)
    · intro f w1 hS hf
      generalize hA : putAll _ _ f = aA
      have g131 : f 92 = .bool true := hf 92 (by decide) (by decide)
      have t131 : aA.tmps[131]? = some (.bool true) := by rw [← hA]; exact putAll_g f 131 92 slotsSz92n a0 sbSz92n (by kernel_rfl) zsz rfl g131
      have r7 : aA.eval (.tmp 7) = v5_1 := by rw [← hA]; exact putAll_off f 7 slotsSz92n a0 (by kernel_rfl) z7
      exact stg_val (by decide) rfl ((wanted_of rfl 131 rfl t131).trans rfl) (v5_1) (ex_move (.tmp 7) rfl r7) hS (Flz.refl _) (updF_self _ _ _)
    · intro f w1 hS hf
      generalize hA : putAll _ _ f = aA
      have g131 : f 92 = .bool true := hf 92 (by decide) (by decide)
      have t131 : aA.tmps[131]? = some (.bool true) := by rw [← hA]; exact putAll_g f 131 92 slotsSz92n a0 sbSz92n (by kernel_rfl) zsz rfl g131
      have h132 : f 93 = v5_1 := hf 93 (by decide) (by decide)
      have r132 : aA.eval (.tmp 132) = v5_1 := by rw [← hA]; exact putAll_at f 132 93 slotsSz92n a0 sbSz92n (by kernel_rfl) zsz rfl h132
      exact stg_call (by decide) rfl ((wanted_of rfl 131 rfl t131).trans rfl) 41 #[(.tmp 132)] _ rfl #[v5_1] (by simp only [List.map_toArray, List.map_cons, List.map_nil, r132]) (fun w => by kernel_rfl) (fun v _ => v = .agg (encU (tellU A)).toArray) (us_tell (HU5_1.out.keep hS) HlA.out (HL.out.keep (HB.out.trans (hS.mono HB.out.size)) HSZ.out)) (fun v w' hr hb => ⟨hS.trans (hb.mono hS.size), Flz.of hb, (updF_self _ _ _).trans hr⟩)
    · intro f w1 hS hf
      generalize hA : putAll _ _ f = aA
      have g131 : f 92 = .bool true := hf 92 (by decide) (by decide)
      have t131 : aA.tmps[131]? = some (.bool true) := by rw [← hA]; exact putAll_g f 131 92 slotsSz92n a0 sbSz92n (by kernel_rfl) zsz rfl g131
      have r10 : aA.eval (.tmp 10) = v6_1 := by rw [← hA]; exact putAll_off f 10 slotsSz92n a0 (by kernel_rfl) z10
      exact stg_val (by decide) rfl ((wanted_of rfl 131 rfl t131).trans rfl) (v6_1) (ex_move (.tmp 10) rfl r10) hS (Flz.refl _) (updF_self _ _ _)
    · intro f w1 hS hf
      generalize hA : putAll _ _ f = aA
      have g131 : f 92 = .bool true := hf 92 (by decide) (by decide)
      have t131 : aA.tmps[131]? = some (.bool true) := by rw [← hA]; exact putAll_g f 131 92 slotsSz92n a0 sbSz92n (by kernel_rfl) zsz rfl g131
      have h134 : f 95 = v6_1 := hf 95 (by decide) (by decide)
      have r134 : aA.eval (.tmp 134) = v6_1 := by rw [← hA]; exact putAll_at f 134 95 slotsSz92n a0 sbSz92n (by kernel_rfl) zsz rfl h134
      exact stg_call (by decide) rfl ((wanted_of rfl 131 rfl t131).trans rfl) 42 #[(.tmp 134)] _ rfl #[v6_1] (by simp only [List.map_toArray, List.map_cons, List.map_nil, r134]) (fun w => by kernel_rfl) (fun v _ => v = .agg (encU (tellU A)).toArray) (us_rtell (HU6_1.out.keep hS) HlA.out) (fun v w' hr hb => ⟨hS.trans (hb.mono hS.size), Flz.of hb, (updF_self _ _ _).trans hr⟩)
    · intro f w1 hS hf
      generalize hA : putAll _ _ f = aA
      have g131 : f 92 = .bool true := hf 92 (by decide) (by decide)
      have t131 : aA.tmps[131]? = some (.bool true) := by rw [← hA]; exact putAll_g f 131 92 slotsSz92n a0 sbSz92n (by kernel_rfl) zsz rfl g131
      have h133 : f 94 = .agg (encU (tellU A)).toArray := hf 94 (by decide) (by decide)
      have r133 : aA.eval (.tmp 133) = .agg (encU (tellU A)).toArray := by rw [← hA]; exact putAll_at f 133 94 slotsSz92n a0 sbSz92n (by kernel_rfl) zsz rfl h133
      have h135 : f 96 = .agg (encU (tellU A)).toArray := hf 96 (by decide) (by decide)
      have r135 : aA.eval (.tmp 135) = .agg (encU (tellU A)).toArray := by rw [← hA]; exact putAll_at f 135 96 slotsSz92n a0 sbSz92n (by kernel_rfl) zsz rfl h135
      exact stg_val (by decide) rfl ((wanted_of rfl 131 rfl t131).trans rfl) (.bool true) (Eq.trans (eql_su 35 (.tmp 133) (.tmp 135) _ rfl (tellU A) (tellU A) r133 r135 (by kernel_rfl) (by kernel_rfl)) (by rw [(decide_eq_true (rfl : tellU A = tellU A))])) hS (Flz.refl _) (updF_self _ _ _)
    · intro f w1 hS hf
      generalize hA : putAll _ _ f = aA
      have h131 : f 92 = .bool true := hf 92 (by decide) (by decide)
      have r131 : aA.eval (.tmp 131) = .bool true := by rw [← hA]; exact putAll_at f 131 92 slotsSz92n a0 sbSz92n (by kernel_rfl) zsz rfl h131
      have h136 : f 97 = .bool true := hf 97 (by decide) (by decide)
      have r136 : aA.eval (.tmp 136) = .bool true := by rw [← hA]; exact putAll_at f 136 97 slotsSz92n a0 sbSz92n (by kernel_rfl) zsz rfl h136
      exact stg_val (by decide) rfl rfl (.bool true) (ex_pick (.tmp 131) (.tmp 136) _ rfl true r131 ((if_pos rfl).trans r136)) hS (Flz.refl _) (updF_self _ _ _)
    · intro f w1 hS hf
      generalize hA : putAll _ _ f = aA
      have h137 : f 98 = .bool true := hf 98 (by decide) (by decide)
      have r137 : aA.eval (.tmp 137) = .bool true := by rw [← hA]; exact putAll_at f 137 98 slotsSz92n a0 sbSz92n (by kernel_rfl) zsz rfl h137
      exact stg_val (by decide) rfl rfl (.bool true) (ex_assign (.tmp 137) rfl r137) hS (Flz.refl _) (updF_self _ _ _)
  intro f x100 hS hf hap
  have h92 : f 92 = .bool true := hf 92 (by decide) (by decide)
  have h93 : f 93 = v5_1 := hf 93 (by decide) (by decide)
  have h94 : f 94 = .agg (encU (tellU A)).toArray := hf 94 (by decide) (by decide)
  have h95 : f 95 = v6_1 := hf 95 (by decide) (by decide)
  have h96 : f 96 = .agg (encU (tellU A)).toArray := hf 96 (by decide) (by decide)
  have h97 : f 97 = .bool true := hf 97 (by decide) (by decide)
  have h98 : f 98 = .bool true := hf 98 (by decide) (by decide)
  have h99 : f 99 = .bool true := hf 99 (by decide) (by decide)
  clear hf hap
  clear zsz z130 z7 z10
  subst ha0
  simp only [slotsSz92n, putAll, h92, h93, h94, h95, h96, h97, h98, h99, Act.put, List.setIfInBounds_toArray, List.set_cons_zero, List.set_cons_succ]
  clear h92 h93 h94 h95 h96 h97 h98 h99
  replace HX1 := Lib.hid (HX1.out.keepB hS)
  replace HU5_1 := Lib.hid (HU5_1.out.keep hS)
  replace HU5_3 := Lib.hid (HU5_3.out.keep hS)
  replace HX_b5_5 := Lib.hid (HX_b5_5.out.keepB hS)
  replace HU6_1 := Lib.hid (HU6_1.out.keep hS)
  replace HU6_3 := Lib.hid (HU6_3.out.keep hS)
  replace HX_b6_5 := Lib.hid (HX_b6_5.out.keepB hS)
  replace HU7_1 := Lib.hid (HU7_1.out.keep hS)
  replace HU9_36 := Lib.hid (HU9_36.out.keep hS)
  replace HU81 := Lib.hid (HU81.out.keep hS)
  replace HB := Lib.hid (HB.out.trans (hS.mono HB.out.size))
  clear hS
  refine rest_nilN (by kernel_rfl) ?_
  go_wp2_with fail
  go_ret
  first | exact ⟨⟨_, rfl, rfl⟩, HB.out⟩ | exact ⟨rfl, HB.out⟩
end Go.Proofs.YtihkbblapfjobaaDoor
