/- The law PeelMakes: it answers true. Conditions: the sums' tables are laid; a seed of 64 bits; what comes in lies in memory, counts of sixty-four bits. -/
import Derived.Test.YtnkcehmgagpadaaDoorSq
import Derived.Test.YtnkcehmgagpadaaDoorQw
namespace Go.Proofs.YtnkcehmgagpadaaDoor
open Go.RowKit
theorem fldA0C {o : Oper} {ev : Operand → Value} {w : World} (x : Operand) (ho : o.op = .fieldAddr 47 x 0) (a : Addr) (hx : ev x = .pointer (some a)) : (execOp ev o).run Tryd.prog w = .ok (.value (.pointer (some a))) w := by
 unfold execOp; simp only [ho, hx]; kernel_rfl
theorem ofAO_in (s : Nat) (n : Int) (m : Nat) (v : Value) (A : List Su) (hg : goodN n = true) (hm : n = m) (hA : AscU A) (w : World) (hs : s < 18446744073709551616) (hL : Laid w) (hn : A.length ≤ 10000) (hU : Us w v A) (b : Nat) (hb : b ≤ w.heap.size) : Calls Tryd.prog 11 #[.int .u64 (s : Int), .int .i64 n, v] w fun e w' => (∃ v, e = .returned v ∧ ∃ zz, v = .tuple #[.agg #[.int .u64 (s : Int), zz], .int .i64 0] ∧ RowO b 47 w' zz (tabP s m A)) ∧ Below w.heap.size w w' := by
 have e : ofT s n A = (s, tabP s m A, 0) := by unfold ofT tabP; rw [if_pos hg, hm, srt_asc hA]; rfl
 refine Calls.mono (ofTO_any s n v A w hs hL hn hU) fun e' w' ⟨⟨v, h1, x, h2, h3⟩, h4⟩ => ?_
 rw [e] at h2 h3
 exact ⟨⟨v, h1, x, h2, h3.less hb⟩, h4⟩
theorem okT_set {T : List Ce} (h : okT T) (i : Nat) {c : Ce} (hc : okC c) : okT (T.set i c) := fun x hx => by
 rcases List.mem_or_eq_of_mem_set hx with h1 | h1
 ·exact h x h1
 ·exact h1 ▸ hc
theorem ownB_partsM {B : List Su} {q : Pst} (h : ownB B q = true) : okP q = true ∧ minU (srt q.2.2) B = [] ∧ botU (srt q.2.1) B = [] := by
 unfold ownB at h
 rw [Bool.and_eq_true, Bool.and_eq_true] at h
 exact ⟨h.1.1, List.eq_nil_of_length_eq_zero (of_decide_eq_true h.1.2), List.eq_nil_of_length_eq_zero (of_decide_eq_true h.2)⟩
def waitMa1 (i : Nat) : List Nat := ([[], [0]] : List (List Nat)).getD i []
def slotsMa1 : List (Nat × Nat) := [(20, 0), (21, 1)]
theorem sbMa1 : slotsB slotsMa1 = true := by kernel_rfl
theorem chkMa1 : flwO slotsMa1 waitMa1 2 (regOf Tryd.f4.body 1) = true := by kernel_rfl
def waitMaf5 (i : Nat) : List Nat := ([[], [], [], [2], [0, 1, 3], [4], [5], [5], [], [0, 1, 2, 3, 4, 5, 6, 7, 8], [0, 1, 2, 3, 4, 5, 6, 7, 8, 9]] : List (List Nat)).getD i []
def slotsMaf5 : List (Nat × Nat) := [(40, 0), (41, 1), (42, 2), (43, 3), (44, 4), (39, 5), (45, 6), (46, 7), (11, 8), (12, 10)]
theorem sbMaf5 : slotsB slotsMaf5 = true := by kernel_rfl
theorem chkMaf5 : flwO slotsMaf5 waitMaf5 9 (regOf Tryd.f4.body 5) = true := by kernel_rfl
def waitMaf6 (i : Nat) : List Nat := ([[], [0]] : List (List Nat)).getD i []
def slotsMaf6 : List (Nat × Nat) := [(47, 0), (48, 1)]
theorem sbMaf6 : slotsB slotsMaf6 = true := by kernel_rfl
theorem chkMaf6 : flwO slotsMaf6 waitMaf6 2 (regOf Tryd.f4.body 6) = true := by kernel_rfl
def waitMat8 (i : Nat) : List Nat := ([[]] : List (List Nat)).getD i []
def slotsMat8 : List (Nat × Nat) := [(13, 0)]
theorem chkMat8 : flwO slotsMat8 waitMat8 1 (regOf Tryd.f4.body 8) = true := by kernel_rfl
def waitMlt9 (i : Nat) : List Nat := ([[], [], [1], [0, 2], [3], [4], [4], [4, 6], [4, 7], [4, 5, 8], [4, 9]] : List (List Nat)).getD i []
def slotsMlt9 : List (Nat × Nat) := [(51, 0), (52, 1), (53, 2), (54, 3), (55, 4), (56, 5), (57, 6), (58, 7), (59, 8), (60, 9), (61, 10)]
theorem sbMlt9 : slotsB slotsMlt9 = true := by kernel_rfl
theorem chkMlt9 : flwO slotsMlt9 waitMlt9 11 (regOf Tryd.f4.body 9) = true := by kernel_rfl
def waitMlf11 (i : Nat) : List Nat := ([[], [], [0, 1], [2], [3], [4]] : List (List Nat)).getD i []
def slotsMlf11 : List (Nat × Nat) := [(64, 0), (65, 1), (66, 2), (67, 3), (68, 4), (69, 5)]
theorem sbMlf11 : slotsB slotsMlf11 = true := by kernel_rfl
theorem chkMlf11 : flwO slotsMlf11 waitMlf11 6 (regOf Tryd.f4.body 11) = true := by kernel_rfl
def waitMlt12 (i : Nat) : List Nat := ([[], [0], [], [], [], [3, 4], [5], [1, 2], [0, 1, 2, 3, 4, 5, 6, 7]] : List (List Nat)).getD i []
def slotsMlt12 : List (Nat × Nat) := [(70, 0), (71, 1), (72, 2), (73, 3), (74, 4), (75, 5), (76, 6), (77, 7)]
theorem sbMlt12 : slotsB slotsMlt12 = true := by kernel_rfl
theorem chkMlt12 : flwB slotsMlt12 waitMlt12 8 (regOf Tryd.f4.body 12) = true := by kernel_rfl
def waitMb13 (i : Nat) : List Nat := ([[], [0], [1]] : List (List Nat)).getD i []
def slotsMb13 : List (Nat × Nat) := [(78, 0), (79, 1), (14, 2)]
theorem sbMb13 : slotsB slotsMb13 = true := by kernel_rfl
theorem chkMb13 : flwO slotsMb13 waitMb13 3 (regOf Tryd.f4.body 13) = true := by kernel_rfl
def waitMbf14 (i : Nat) : List Nat := ([[], [], [0, 1], [2], [3], [3], [3], [4], [5], [6]] : List (List Nat)).getD i []
def slotsMbf14 : List (Nat × Nat) := [(81, 0), (82, 1), (83, 2), (80, 3), (84, 4), (85, 5), (86, 6), (15, 7), (16, 8), (17, 9)]
theorem sbMbf14 : slotsB slotsMbf14 = true := by kernel_rfl
theorem chkMbf14 : flwO slotsMbf14 waitMbf14 10 (regOf Tryd.f4.body 14) = true := by kernel_rfl
def waitMbf15 (i : Nat) : List Nat := ([[], [0]] : List (List Nat)).getD i []
def slotsMbf15 : List (Nat × Nat) := [(87, 0), (88, 1)]
theorem sbMbf15 : slotsB slotsMbf15 = true := by kernel_rfl
theorem chkMbf15 : flwO slotsMbf15 waitMbf15 2 (regOf Tryd.f4.body 15) = true := by kernel_rfl
def waitMbf16 (i : Nat) : List Nat := ([[], [0], [1], [2], [2, 3], [2, 4], [2, 5], [6], [7], [7, 8], [7, 9], [7, 10], [11]] : List (List Nat)).getD i []
def slotsMbf16 : List (Nat × Nat) := [(89, 0), (90, 1), (91, 2), (92, 3), (93, 4), (94, 5), (95, 6), (96, 7), (97, 8), (98, 9), (99, 10), (100, 11), (10, 12)]
theorem sbMbf16 : slotsB slotsMbf16 = true := by kernel_rfl
theorem chkMbf16 : flwO slotsMbf16 waitMbf16 13 (regOf Tryd.f4.body 16) = true := by kernel_rfl
def waitMbt17 (i : Nat) : List Nat := ([[], [], [], [], [2, 3], [], [4, 5], [0, 1, 6], [7], [8], [8], [], [0, 1, 2, 3, 4, 5, 6, 7, 8, 9, 10, 11], [0, 1, 2, 3, 4, 5, 6, 7, 8, 9, 10, 11, 12]] : List (List Nat)).getD i []
def slotsMbt17 : List (Nat × Nat) := [(102, 0), (103, 1), (104, 2), (105, 3), (106, 4), (107, 5), (108, 6), (109, 7), (101, 8), (110, 9), (111, 10), (18, 11), (19, 13)]
theorem sbMbt17 : slotsB slotsMbt17 = true := by kernel_rfl
theorem chkMbt17 : flwO slotsMbt17 waitMbt17 12 (regOf Tryd.f4.body 17) = true := by kernel_rfl
def waitMbt18 (i : Nat) : List Nat := ([[], [0], [1], [2], [2, 3], [2], [2, 5], [2, 4, 6], [2, 7], [8], [9], [9], [9, 10, 11], [9, 12], [9, 13], [9, 14], [15], [16], [16], [16, 17, 18], [16, 19], [16, 20], [16, 21], [22]] : List (List Nat)).getD i []
def slotsMbt18 : List (Nat × Nat) := [(112, 0), (113, 1), (114, 2), (115, 3), (116, 4), (117, 5), (118, 6), (119, 7), (120, 8), (121, 9), (122, 10), (123, 11), (124, 12), (125, 13), (126, 14), (127, 15), (128, 16), (129, 17), (130, 18), (131, 19), (132, 20), (133, 21), (134, 22), (10, 23)]
theorem sbMbt18 : slotsB slotsMbt18 = true := by kernel_rfl
theorem chkMbt18 : flwB slotsMbt18 waitMbt18 24 (regOf Tryd.f4.body 18) = true := by kernel_rfl
set_option maxHeartbeats 32000000 in
set_option maxRecDepth 100000 in
theorem peelMakes_b (s : Nat) (n : Int) (R : List Ce) (la lb : List Int) (qr qa qb : Option Addr) (cr ca cb : Nat) (w w0 : World) (hB : Below w.heap.size w w0) (hs : s < 18446744073709551616) (hL : Laid w) (hr : Cs w (.slice qr R.length cr) R) (ho : ∀ x ∈ R, okC x) (ha : Sees w w.heap.size qa (la.map fun n => Value.int .i64 n)) (hb : Sees w w.heap.size qb (lb.map fun n => Value.int .i64 n)) : Calls Tryd.prog 4 #[.int .u64 (s : Int), .int .i64 n, .slice qr R.length cr, .slice qa la.length ca, .slice qb lb.length cb] w0 fun e w' => e = .returned (.bool true) ∧ Below w.heap.size w w' := by
 have HB := Lib.hid hB
 clear hB
 have HL := Lib.hid hL
 have HSZ := Lib.hid hL.size
 have HSD := Lib.hid hs
 have HSR := Lib.hid hr
 have HRO := Lib.hid ho
 have HSA : Hid (Ins w (.slice qa la.length ca) la) := Lib.hid ⟨qa, ca, rfl, ha⟩
 have HSB : Hid (Ins w (.slice qb lb.length cb) lb) := Lib.hid ⟨qb, cb, rfl, hb⟩
 clear hL hs hr ho ha hb
 go_enter Tryd.func4, Tryd.ntmps4
 go_upto_region 0 with fail
 refine wp_region_lit ?_
 try simp only [Act.put, List.setIfInBounds_toArray, List.set_cons_zero, List.set_cons_succ]
 refine lp_pure (v := .bool false) rfl (ex_assign _ rfl rfl) ?_
 try simp only [Act.put, List.setIfInBounds_toArray, List.set_cons_zero, List.set_cons_succ]
 refine wpList_nil ?_
 go_upto_region 1 with fail
 refine wp_act (fun a0 ha0 => ?_)
 have zsz : a0.tmps.size = 135 := by rw [ha0]; rfl
 refine wrO [] slotsMa1 waitMa1 [Fct.val Flz 0 (.bool true), Fct.val Flz 1 (.bool false)] (fun w' => Below w0.heap.size w0 w') _ 2 0 chkMa1 (by kernel_rfl) (by kernel_rfl) (by kernel_rfl) (by decide) (Below.refl _ _) ?_ ?_
 ·refine lt_s (lt_s (lt_0) ?_) ?_
  ·intro f w1 hS hf aA hA
   exact fC rfl rfl 8 #[] _ rfl #[] (by kernel_rfl) (fun w => by kernel_rfl) _ (awake16_any w1 (HL.out.keep (HB.out.trans (hS.mono HB.out.size)) HSZ.out)) hS (fun _ _ h => uS.trans h)
  ·intro f w1 hS hf aA hA
   have r20 := pA 20 0 hA sbMa1 (by kernel_rfl) zsz rfl (hf 0 (by decide))
   exact fV rfl rfl _ (ex_not _ (.tmp 20) rfl r20) hS uS
 intro f u1 hS hf hap
 have h0 : f 0 = .bool true := hf 0 (by decide)
 have h1 : f 1 = .bool false := hf 1 (by decide)
 clear hf hap
 clear zsz
 subst ha0
 simp only [slotsMa1, putAll, h0, h1, Act.put, List.setIfInBounds_toArray, List.set_cons_zero, List.set_cons_succ]
 clear h0 h1
 refine tl_nil ?_
 replace HB := Lib.hid (HB.out.trans (hS.mono HB.out.size))
 clear hS
 by_cases h1 : 30 < la.length
 ·have k1 : (30 : Int) < (la.length : Int) := by omega
  go_wp2_with fail
  go_ret
  exact ⟨rfl, HB.out⟩
 have k1 : ¬ (30 : Int) < (la.length : Int) := by omega
 by_cases h2 : 30 < lb.length
 ·have k2 : (30 : Int) < (lb.length : Int) := by omega
  go_wp2_with fail
  go_ret
  exact ⟨rfl, HB.out⟩
 have k2 : ¬ (30 : Int) < (lb.length : Int) := by omega
 by_cases h3 : 90 < n
 ·go_wp2_with fail
  go_ret
  exact ⟨rfl, HB.out⟩
 by_cases h4 : 90 < R.length
 ·have k4 : (90 : Int) < (R.length : Int) := by omega
  go_wp2_with fail
  go_ret
  exact ⟨rfl, HB.out⟩
 have k4 : ¬ (90 : Int) < (R.length : Int) := by omega
 have HLA : Hid (la.length ≤ 30) := Lib.hid (by omega)
 have HLB : Hid (lb.length ≤ 30) := Lib.hid (by omega)
 have HLR : Hid (R.length ≤ 90) := Lib.hid (by omega)
 clear h1 h2 h4
 obtain ⟨gd, hgd⟩ : ∃ gd, goodN n = gd := ⟨_, rfl⟩
 have HGD := Lib.hid hgd
 clear hgd
 cases gd
 ·go_upto_region 5 with fail
  refine wp_act (fun a0 ha0 => ?_)
  have zsz : a0.tmps.size = 135 := by rw [ha0]; rfl
  have z0 : a0.eval (.tmp 0) = .int .u64 (s : Int) := by rw [ha0]; rfl
  have z1 : a0.eval (.tmp 1) = .int .i64 n := by rw [ha0]; rfl
  have z3 : a0.eval (.tmp 3) = .slice qa la.length ca := by rw [ha0]; rfl
  refine wrO [] slotsMaf5 waitMaf5 [Fct.val Flz 0 (.int .u64 (s : Int)), Fct.val Flz 1 (.int .i64 n), Fct.val Flz 2 (.slice qa la.length ca), Fct.obj 3 (fun v w => Us w v (srt ((la).map fewS))) (fun _ _ _ h he => h.flz he), Fct.obj 4 (fun v w => ∃ zz, v = .tuple #[.agg #[.int .u64 0, zz], .int .i64 1] ∧ Cs w zz (([] : List Ce))) (fun _ _ _ ⟨zz, a, b⟩ he => ⟨zz, a, b.flz he⟩), Fct.obj 5 (fun v w => ∃ zz, v = .tuple #[.agg #[.int .u64 0, zz], .int .i64 1] ∧ Cs w zz (([] : List Ce))) (fun _ _ _ ⟨zz, a, b⟩ he => ⟨zz, a, b.flz he⟩), Fct.obj 6 (fun v w => ∃ zz, v = .agg #[.int .u64 0, zz] ∧ Cs w zz (([] : List Ce))) (fun _ _ _ ⟨zz, a, b⟩ he => ⟨zz, a, b.flz he⟩), Fct.val Flz 7 (.int .i64 1), Fct.obj 8 (fun v w => ∃ g, v = .pointer (some ⟨g, 0, none⟩) ∧ u1.heap.size ≤ g ∧ Has w g 28 ([.int .u64 0, .slice none 0 0])) (fun _ _ _ ⟨g, a, b, c⟩ he => ⟨g, a, b, c.flz he (by decide)⟩)] (fun w' => Below u1.heap.size u1 w') _ 9 2 chkMaf5 (by kernel_rfl) (by kernel_rfl) (by kernel_rfl) (by decide) (Below.refl _ _) ?_ ?_
  ·refine lt_s (lt_s (lt_s (lt_s (lt_s (lt_s (lt_s (lt_s (lt_s (lt_0) ?_) ?_) ?_) ?_) ?_) ?_) ?_) ?_) ?_
   ·intro f w1 hS hf aA hA
    have r0 := pO 0 hA (by kernel_rfl) z0
    exact fV rfl rfl _ (ex_move (.tmp 0) rfl r0) hS uS
   ·intro f w1 hS hf aA hA
    have r1 := pO 1 hA (by kernel_rfl) z1
    exact fV rfl rfl _ (ex_move (.tmp 1) rfl r1) hS uS
   ·intro f w1 hS hf aA hA
    have r3 := pO 3 hA (by kernel_rfl) z3
    exact fV rfl rfl _ (ex_move (.tmp 3) rfl r3) hS uS
   ·intro f w1 hS hf aA hA
    have r42 := pA 42 2 hA sbMaf5 (by kernel_rfl) zsz rfl (hf 2 (by decide))
    exact flw_call rfl rfl 12 #[(.tmp 42)] _ rfl #[.slice qa la.length ca] (mp1 r42) (fun w => by kernel_rfl) (fun v w' => Us w' v (srt ((la).map fewS))) (few16_us _ (la) w1 (HL.out.keep (HB.out.trans (hS.mono HB.out.size)) HSZ.out) (Nat.le_trans HLA.out (by decide)) (HSA.out.keep (HB.out.trans (hS.mono HB.out.size)))) (fun v w' hr hb => ⟨hS.trans (hb.mono hS.size), Flz.of hb, (show Us w' (updF f 3 v 3) (srt ((la).map fewS)) by rw [updF_self]; exact hr)⟩)
   ·intro f w1 hS hf aA hA
    have r40 := pA 40 0 hA sbMaf5 (by kernel_rfl) zsz rfl (hf 0 (by decide))
    have r41 := pA 41 1 hA sbMaf5 (by kernel_rfl) zsz rfl (hf 1 (by decide))
    have hu3 : Us w1 (f 3) (srt ((la).map fewS)) := (hf 3 (by decide))
    have e43 := pA 43 3 hA sbMaf5 (by kernel_rfl) zsz rfl rfl
    exact fC rfl rfl 11 #[(.tmp 40), (.tmp 41), (.tmp 43)] _ rfl #[.int .u64 (s : Int), .int .i64 n, f 3] (mp3 r40 r41 e43) (fun w => by kernel_rfl) _ (of_f s n _ (srt ((la).map fewS)) HGD.out w1 HSD.out (HL.out.keep (HB.out.trans (hS.mono HB.out.size)) HSZ.out) (len_few _ 10000 (Nat.le_trans HLA.out (by decide))) hu3) hS (fun _ _ ⟨zz, a, b⟩ => ⟨zz, uS.trans a, b⟩)
   ·intro f w1 hS hf aA hA
    obtain ⟨x44, hx44, hr44⟩ := hf 4 (by decide)
    have e44 := pA 44 4 hA sbMaf5 (by kernel_rfl) zsz rfl hx44
    exact flw_val rfl rfl (.tuple #[.agg #[.int .u64 0, x44], .int .i64 1]) (ex_move (.tmp 44) rfl e44) hS (Flz.refl _) ⟨x44, uS, hr44⟩
   ·intro f w1 hS hf aA hA
    obtain ⟨x39, hx39, hr39⟩ := hf 5 (by decide)
    have e39 := pA 39 5 hA sbMaf5 (by kernel_rfl) zsz rfl hx39
    exact flw_val rfl rfl (.agg #[.int .u64 0, x39]) (ex_extract (.tmp 39) 0 rfl e39 rfl) hS (Flz.refl _) ⟨x39, uS, hr39⟩
   ·intro f w1 hS hf aA hA
    obtain ⟨x39, hx39, hr39⟩ := hf 5 (by decide)
    have e39 := pA 39 5 hA sbMaf5 (by kernel_rfl) zsz rfl hx39
    exact fV rfl rfl _ (ex_extract (.tmp 39) 1 rfl e39 rfl) hS uS
   ·intro f w1 hS hf aA hA
    exact flw_wp rfl rfl (fun K hK => wp_alloc_row 28 rfl (.agg #[.int .u64 0, .slice none 0 0]) (fun w => by kernel_rfl) (hK _ _ (hS.alloc hS.size _) (Flz.al _ _) ⟨_, uS, hS.size, Has.made' _ _ _ _ rfl⟩))
  intro f x5 hS hf hap
  have h0 : f 0 = .int .u64 (s : Int) := hf 0 (by decide)
  have h1 : f 1 = .int .i64 n := hf 1 (by decide)
  have h2 : f 2 = .slice qa la.length ca := hf 2 (by decide)
  obtain ⟨v5_3, h3, hu3⟩ : ∃ v, f 3 = v ∧ Us x5 v (srt ((la).map fewS)) := ⟨_, rfl, (hf 3 (by decide))⟩
  clear hu3
  obtain ⟨v5_4, h4, -⟩ := hf 4 (by decide)
  obtain ⟨v5_5, h5, -⟩ := hf 5 (by decide)
  obtain ⟨v5_6, h6, hu6⟩ := hf 6 (by decide)
  have HU5_6 := Lib.hid hu6
  clear hu6
  have h7 : f 7 = .int .i64 1 := hf 7 (by decide)
  obtain ⟨b5_8, h8, hgb8, hhb8⟩ := hf 8 (by decide)
  clear hf hap
  clear zsz z0 z1 z3
  subst ha0
  simp only [slotsMaf5, putAll, h0, h1, h2, h3, h4, h5, h6, h7, h8, Act.put, List.setIfInBounds_toArray, List.set_cons_zero, List.set_cons_succ]
  clear h0 h1 h2 h3 h4 h5 h6 h7 h8
  refine tl_store rfl (by kernel_rfl) 28 (.tmp 11) (.tmp 45) rfl b5_8 ([.int .u64 0, v5_6]) _ rfl rfl _ hhb8 (by kernel_rfl) rfl (tb_ones _ HU5_6.out.one) ?_
  intro u5 hp8 hbl hot
  replace hS := hS.trans (hbl _ hgb8)
  replace HU5_6 := Lib.hid (HU5_6.out.hotb hhb8 ⟨_, _, _, rfl⟩ (by decide) (hbl 0 (Nat.zero_le _)).size hot)
  clear hbl hot hhb8
  try simp only [Act.put]
  refine tl_pure rfl (by kernel_rfl) (.int .i64 1) (ex_assign (.tmp 46) rfl rfl) ?_
  try simp only [Act.put, List.setIfInBounds_toArray, List.set_cons_zero, List.set_cons_succ]
  refine tl_nil ?_
  have HBW := Lib.hid HB.out.size
  replace HB := Lib.hid (HB.out.trans (hS.mono HB.out.size))
  clear hS
  have HGb5_8 : Hid (w.heap.size ≤ b5_8) := Lib.hid (Nat.le_trans HBW.out hgb8)
  have HX_b5_8 : Hid (Has u5 b5_8 28 ([.int .u64 0, v5_6])) := Lib.hid hp8
  clear hp8 hgb8
  clear HBW
  go_upto_region 6 with fail
  refine wp_act (fun a0 ha0 => ?_)
  have zsz : a0.tmps.size = 135 := by rw [ha0]; rfl
  have z12 : a0.eval (.tmp 12) = .int .i64 1 := by rw [ha0]; rfl
  refine wrO [] slotsMaf6 waitMaf6 [Fct.val Flz 0 (.int .i64 1), Fct.val Flz 1 (.bool true)] (fun w' => Below u5.heap.size u5 w') _ 2 0 chkMaf6 (by kernel_rfl) (by kernel_rfl) (by kernel_rfl) (by decide) (Below.refl _ _) ?_ ?_
  ·refine lt_s (lt_s (lt_0) ?_) ?_
   ·intro f w1 hS hf aA hA
    have r12 := pO 12 hA (by kernel_rfl) z12
    exact fV rfl rfl _ (ex_move (.tmp 12) rfl r12) hS uS
   ·intro f w1 hS hf aA hA
    have r47 := pA 47 0 hA sbMaf6 (by kernel_rfl) zsz rfl (hf 0 (by decide))
    exact fV rfl rfl _ (Eq.trans (ex_int .neq _ _ (.tmp 47) _ rfl .i64 1 0 r47 rfl (.bool ((1 : Int) != (0 : Int))) (fun _ => rfl)) (by rw [(by decide : ((1 : Int) != (0 : Int)) = true)])) hS uS
  intro f u6 hS hf hap
  have h0 : f 0 = .int .i64 1 := hf 0 (by decide)
  have h1 : f 1 = .bool true := hf 1 (by decide)
  clear hf hap
  clear zsz z12
  subst ha0
  simp only [slotsMaf6, putAll, h0, h1, Act.put, List.setIfInBounds_toArray, List.set_cons_zero, List.set_cons_succ]
  clear h0 h1
  refine tl_nil ?_
  replace HX_b5_8 := Lib.hid (HX_b5_8.out.keepB hS)
  replace HU5_6 := Lib.hid (HU5_6.out.keep hS)
  replace HB := Lib.hid (HB.out.trans (hS.mono HB.out.size))
  clear hS
  go_wp2_with fail
  go_ret
  exact ⟨rfl, HB.out⟩
 ·obtain ⟨m, hm, hm3, hm4⟩ := good_int HGD.out
  have HM := Lib.hid hm
  have HM4 := Lib.hid hm4
  have HGM : Hid (goodN (m : Int) = true) := Lib.hid (by rw [← hm]; exact HGD.out)
  clear hm hm3 hm4
  have HW1 : Hid (w.heap.size ≤ u1.heap.size) := Lib.hid HB.out.size
  go_upto_region 5 with fail
  refine wp_act (fun a0 ha0 => ?_)
  have zsz : a0.tmps.size = 135 := by rw [ha0]; rfl
  have z0 : a0.eval (.tmp 0) = .int .u64 (s : Int) := by rw [ha0]; rfl
  have z1 : a0.eval (.tmp 1) = .int .i64 n := by rw [ha0]; rfl
  have z3 : a0.eval (.tmp 3) = .slice qa la.length ca := by rw [ha0]; rfl
  refine wrO [] slotsMaf5 waitMaf5 [Fct.val Flz 0 (.int .u64 (s : Int)), Fct.val Flz 1 (.int .i64 n), Fct.val Flz 2 (.slice qa la.length ca), Fct.obj 3 (fun v w => Us w v (srt ((la).map fewS))) (fun _ _ _ h he => h.flz he), Fct.obj 4 (fun v w => ∃ zz, v = .tuple #[.agg #[.int .u64 (s : Int), zz], .int .i64 0] ∧ RowO u1.heap.size 47 w zz (tabP s m (srt ((la).map fewS)))) (fun _ _ _ ⟨zz, a, b⟩ he => ⟨zz, a, b.flz he⟩), Fct.obj 5 (fun v w => ∃ zz, v = .tuple #[.agg #[.int .u64 (s : Int), zz], .int .i64 0] ∧ RowO u1.heap.size 47 w zz (tabP s m (srt ((la).map fewS)))) (fun _ _ _ ⟨zz, a, b⟩ he => ⟨zz, a, b.flz he⟩), Fct.obj 6 (fun v w => ∃ zz, v = .agg #[.int .u64 (s : Int), zz] ∧ RowO u1.heap.size 47 w zz (tabP s m (srt ((la).map fewS)))) (fun _ _ _ ⟨zz, a, b⟩ he => ⟨zz, a, b.flz he⟩), Fct.val Flz 7 (.int .i64 0), Fct.obj 8 (fun v w => ∃ g, v = .pointer (some ⟨g, 0, none⟩) ∧ u1.heap.size ≤ g ∧ Has w g 28 ([.int .u64 0, .slice none 0 0])) (fun _ _ _ ⟨g, a, b, c⟩ he => ⟨g, a, b, c.flz he (by decide)⟩)] (fun w' => Below u1.heap.size u1 w') _ 9 2 chkMaf5 (by kernel_rfl) (by kernel_rfl) (by kernel_rfl) (by decide) (Below.refl _ _) ?_ ?_
  ·refine lt_s (lt_s (lt_s (lt_s (lt_s (lt_s (lt_s (lt_s (lt_s (lt_0) ?_) ?_) ?_) ?_) ?_) ?_) ?_) ?_) ?_
   ·intro f w1 hS hf aA hA
    have r0 := pO 0 hA (by kernel_rfl) z0
    exact fV rfl rfl _ (ex_move (.tmp 0) rfl r0) hS uS
   ·intro f w1 hS hf aA hA
    have r1 := pO 1 hA (by kernel_rfl) z1
    exact fV rfl rfl _ (ex_move (.tmp 1) rfl r1) hS uS
   ·intro f w1 hS hf aA hA
    have r3 := pO 3 hA (by kernel_rfl) z3
    exact fV rfl rfl _ (ex_move (.tmp 3) rfl r3) hS uS
   ·intro f w1 hS hf aA hA
    have r42 := pA 42 2 hA sbMaf5 (by kernel_rfl) zsz rfl (hf 2 (by decide))
    exact flw_call rfl rfl 12 #[(.tmp 42)] _ rfl #[.slice qa la.length ca] (mp1 r42) (fun w => by kernel_rfl) (fun v w' => Us w' v (srt ((la).map fewS))) (few16_us _ (la) w1 (HL.out.keep (HB.out.trans (hS.mono HB.out.size)) HSZ.out) (Nat.le_trans HLA.out (by decide)) (HSA.out.keep (HB.out.trans (hS.mono HB.out.size)))) (fun v w' hr hb => ⟨hS.trans (hb.mono hS.size), Flz.of hb, (show Us w' (updF f 3 v 3) (srt ((la).map fewS)) by rw [updF_self]; exact hr)⟩)
   ·intro f w1 hS hf aA hA
    have r40 := pA 40 0 hA sbMaf5 (by kernel_rfl) zsz rfl (hf 0 (by decide))
    have r41 := pA 41 1 hA sbMaf5 (by kernel_rfl) zsz rfl (hf 1 (by decide))
    have hu3 : Us w1 (f 3) (srt ((la).map fewS)) := (hf 3 (by decide))
    have e43 := pA 43 3 hA sbMaf5 (by kernel_rfl) zsz rfl rfl
    exact fC rfl rfl 11 #[(.tmp 40), (.tmp 41), (.tmp 43)] _ rfl #[.int .u64 (s : Int), .int .i64 n, f 3] (mp3 r40 r41 e43) (fun w => by kernel_rfl) _ (ofAO_in s n m _ (srt ((la).map fewS)) HGD.out HM.out (asc_few _) w1 HSD.out (HL.out.keep (HB.out.trans (hS.mono HB.out.size)) HSZ.out) (len_few _ 10000 (Nat.le_trans HLA.out (by decide))) hu3 u1.heap.size hS.size) hS (fun _ _ ⟨zz, a, b⟩ => ⟨zz, uS.trans a, b⟩)
   ·intro f w1 hS hf aA hA
    obtain ⟨x44, hx44, hr44⟩ := hf 4 (by decide)
    have e44 := pA 44 4 hA sbMaf5 (by kernel_rfl) zsz rfl hx44
    exact flw_val rfl rfl (.tuple #[.agg #[.int .u64 (s : Int), x44], .int .i64 0]) (ex_move (.tmp 44) rfl e44) hS (Flz.refl _) ⟨x44, uS, hr44⟩
   ·intro f w1 hS hf aA hA
    obtain ⟨x39, hx39, hr39⟩ := hf 5 (by decide)
    have e39 := pA 39 5 hA sbMaf5 (by kernel_rfl) zsz rfl hx39
    exact flw_val rfl rfl (.agg #[.int .u64 (s : Int), x39]) (ex_extract (.tmp 39) 0 rfl e39 rfl) hS (Flz.refl _) ⟨x39, uS, hr39⟩
   ·intro f w1 hS hf aA hA
    obtain ⟨x39, hx39, hr39⟩ := hf 5 (by decide)
    have e39 := pA 39 5 hA sbMaf5 (by kernel_rfl) zsz rfl hx39
    exact fV rfl rfl _ (ex_extract (.tmp 39) 1 rfl e39 rfl) hS uS
   ·intro f w1 hS hf aA hA
    exact flw_wp rfl rfl (fun K hK => wp_alloc_row 28 rfl (.agg #[.int .u64 0, .slice none 0 0]) (fun w => by kernel_rfl) (hK _ _ (hS.alloc hS.size _) (Flz.al _ _) ⟨_, uS, hS.size, Has.made' _ _ _ _ rfl⟩))
  intro f x5 hS hf hap
  have h0 : f 0 = .int .u64 (s : Int) := hf 0 (by decide)
  have h1 : f 1 = .int .i64 n := hf 1 (by decide)
  have h2 : f 2 = .slice qa la.length ca := hf 2 (by decide)
  obtain ⟨v5_3, h3, hu3⟩ : ∃ v, f 3 = v ∧ Us x5 v (srt ((la).map fewS)) := ⟨_, rfl, (hf 3 (by decide))⟩
  clear hu3
  obtain ⟨v5_4, h4, -⟩ := hf 4 (by decide)
  obtain ⟨v5_5, h5, -⟩ := hf 5 (by decide)
  obtain ⟨v5_6, h6, hu6⟩ := hf 6 (by decide)
  have HU5_6 := Lib.hid hu6
  clear hu6
  have h7 : f 7 = .int .i64 0 := hf 7 (by decide)
  obtain ⟨b5_8, h8, hgb8, hhb8⟩ := hf 8 (by decide)
  clear hf hap
  clear zsz z0 z1 z3
  subst ha0
  simp only [slotsMaf5, putAll, h0, h1, h2, h3, h4, h5, h6, h7, h8, Act.put, List.setIfInBounds_toArray, List.set_cons_zero, List.set_cons_succ]
  clear h0 h1 h2 h3 h4 h5 h6 h7 h8
  refine tl_store rfl (by kernel_rfl) 28 (.tmp 11) (.tmp 45) rfl b5_8 ([.int .u64 (s : Int), v5_6]) _ rfl rfl _ hhb8 (by kernel_rfl) rfl (tb_ones _ HU5_6.out.one) ?_
  intro u5 hp8 hbl hot
  replace hS := hS.trans (hbl _ hgb8)
  replace HU5_6 := Lib.hid (HU5_6.out.hotb hhb8 ⟨_, _, _, rfl⟩ (by decide) (hbl 0 (Nat.zero_le _)).size hot)
  clear hbl hot hhb8
  try simp only [Act.put]
  refine tl_pure rfl (by kernel_rfl) (.int .i64 0) (ex_assign (.tmp 46) rfl rfl) ?_
  try simp only [Act.put, List.setIfInBounds_toArray, List.set_cons_zero, List.set_cons_succ]
  refine tl_nil ?_
  have HBW := Lib.hid HB.out.size
  replace HB := Lib.hid (HB.out.trans (hS.mono HB.out.size))
  clear hS
  have HGb5_8 : Hid (w.heap.size ≤ b5_8) := Lib.hid (Nat.le_trans HBW.out hgb8)
  have HX_b5_8 : Hid (Has u5 b5_8 28 ([.int .u64 (s : Int), v5_6])) := Lib.hid hp8
  clear hp8 hgb8
  clear HBW
  go_upto_region 6 with fail
  refine wp_act (fun a0 ha0 => ?_)
  have zsz : a0.tmps.size = 135 := by rw [ha0]; rfl
  have z12 : a0.eval (.tmp 12) = .int .i64 0 := by rw [ha0]; rfl
  refine wrO [] slotsMaf6 waitMaf6 [Fct.val Flz 0 (.int .i64 0), Fct.val Flz 1 (.bool false)] (fun w' => Below u5.heap.size u5 w') _ 2 0 chkMaf6 (by kernel_rfl) (by kernel_rfl) (by kernel_rfl) (by decide) (Below.refl _ _) ?_ ?_
  ·refine lt_s (lt_s (lt_0) ?_) ?_
   ·intro f w1 hS hf aA hA
    have r12 := pO 12 hA (by kernel_rfl) z12
    exact fV rfl rfl _ (ex_move (.tmp 12) rfl r12) hS uS
   ·intro f w1 hS hf aA hA
    have r47 := pA 47 0 hA sbMaf6 (by kernel_rfl) zsz rfl (hf 0 (by decide))
    exact fV rfl rfl _ (Eq.trans (ex_int .neq _ _ (.tmp 47) _ rfl .i64 0 0 r47 rfl (.bool ((0 : Int) != (0 : Int))) (fun _ => rfl)) (by rw [(by decide : ((0 : Int) != (0 : Int)) = false)])) hS uS
  intro f u6 hS hf hap
  have h0 : f 0 = .int .i64 0 := hf 0 (by decide)
  have h1 : f 1 = .bool false := hf 1 (by decide)
  clear hf hap
  clear zsz z12
  subst ha0
  simp only [slotsMaf6, putAll, h0, h1, Act.put, List.setIfInBounds_toArray, List.set_cons_zero, List.set_cons_succ]
  clear h0 h1
  refine tl_nil ?_
  replace HX_b5_8 := Lib.hid (HX_b5_8.out.keepB hS)
  replace HU5_6 := Lib.hid (HU5_6.out.keep hS)
  replace HB := Lib.hid (HB.out.trans (hS.mono HB.out.size))
  clear hS
  go_upto_region 8 with fail
  refine wp_act (fun a0 ha0 => ?_)
  have zsz : a0.tmps.size = 135 := by rw [ha0]; rfl
  refine wrO [] slotsMat8 waitMat8 [Fct.val Flz 0 (.int .i64 0)] (fun w' => Below u6.heap.size u6 w') _ 1 0 chkMat8 (by kernel_rfl) (by kernel_rfl) (by kernel_rfl) (by decide) (Below.refl _ _) ?_ ?_
  ·refine lt_s (lt_0) ?_
   ·intro f w1 hS hf aA hA
    exact fV rfl rfl (.int .i64 0) (ex_assign _ rfl rfl) hS uS
  intro f u8 hS hf hap
  have h0 : f 0 = .int .i64 0 := hf 0 (by decide)
  clear hf hap
  clear zsz
  subst ha0
  simp only [slotsMat8, putAll, h0, Act.put, List.setIfInBounds_toArray, List.set_cons_zero, List.set_cons_succ]
  clear h0
  refine tl_nil ?_
  replace HX_b5_8 := Lib.hid (HX_b5_8.out.keepB hS)
  replace HU5_6 := Lib.hid (HU5_6.out.keep hS)
  replace HB := Lib.hid (HB.out.trans (hS.mono HB.out.size))
  clear hS
  have HT : Hid (∃ T : List Ce, T.length = m ∧ okT T ∧ RowO u1.heap.size 47 u8 v5_6 T) := Lib.hid ⟨_, tabP_len _ _ _, okT_tabP _ _ _, HU5_6.out⟩
  clear HU5_6
  go_wp2_with fail
  go_loopw [13] (fun vi wr => ∃ i : Nat, i ≤ R.length ∧ i ≤ m ∧ vi = .int .i64 i ∧ (∃ T : List Ce, T.length = m ∧ okT T ∧ RowO u1.heap.size 47 wr v5_6 T) ∧ Has wr b5_8 28 [.int .u64 (s : Int), v5_6] ∧ Below w.heap.size w wr) (fun vi _ => R.length - (intOf vi).toNat)
  case atStart => exact ⟨0, by omega, by omega, rfl, HT.out, HX_b5_8.out, HB.out⟩
  case round =>
   clear HT HX_b5_8 HB
   rename_i wr
   obtain ⟨i, hi, him, rfl, ⟨T, htl, hto, ht⟩, hx, hB⟩ := hrel
   have HTL := Lib.hid htl
   have HTO := Lib.hid hto
   have HT := Lib.hid ht
   have HX_b5_8 := Lib.hid hx
   have HB := Lib.hid hB
   clear htl hto ht hx hB
   have HLRn : R.length ≤ 90 := HLR.out
   by_cases hcond : i < R.length ∧ i < m
   ·have hlt := hcond.1
    have hlm := hcond.2
    have HLT : Hid (decide ((i : Int) < ((R).length : Int)) = true) := Lib.hid (decide_eq_true (by omega))
    have HLM : Hid (decide ((i : Int) < (m : Int)) = true) := Lib.hid (decide_eq_true (by omega))
    go_upto_region 9 with fail
    refine wp_act (fun a0 ha0 => ?_)
    have zsz : a0.tmps.size = 135 := by rw [ha0]; rfl
    have z13 : a0.eval (.tmp 13) = .int .i64 ((i : Int)) := by rw [ha0]; rfl
    have z2 : a0.eval (.tmp 2) = .slice qr R.length cr := by rw [ha0]; rfl
    have z11 : a0.eval (.tmp 11) = .pointer (some ⟨b5_8, 0, none⟩) := by rw [ha0]; rfl
    refine wrO [] slotsMlt9 waitMlt9 [Fct.val Flz 0 (.int .i64 ((i : Int))), Fct.val Flz 1 (.slice qr R.length cr), Fct.val Flz 2 (.int .i64 (((R).length : Int))), Fct.val Flz 3 (.bool true), Fct.val Flz 4 (.bool true), Fct.val Flz 5 (.int .i64 ((i : Int))), Fct.val Flz 6 (.pointer (some ⟨b5_8, 1, none⟩)), Fct.val Flz 7 (v5_6), Fct.val Flz 8 (.int .i64 ((m : Int))), Fct.val Flz 9 (.bool true), Fct.val Flz 10 (.bool true)] (fun w' => Below wr.heap.size wr w') _ 11 0 chkMlt9 (by kernel_rfl) (by kernel_rfl) (by kernel_rfl) (by decide) (Below.refl _ _) ?_ ?_
    ·refine lt_s (lt_s (lt_s (lt_s (lt_s (lt_s (lt_s (lt_s (lt_s (lt_s (lt_s (lt_0) ?_) ?_) ?_) ?_) ?_) ?_) ?_) ?_) ?_) ?_) ?_
     ·intro f w1 hS hf aA hA
      have r13 := pO 13 hA (by kernel_rfl) z13
      exact fV rfl rfl _ (ex_move (.tmp 13) rfl r13) hS uS
     ·intro f w1 hS hf aA hA
      have r2 := pO 2 hA (by kernel_rfl) z2
      exact fV rfl rfl _ (ex_move (.tmp 2) rfl r2) hS uS
     ·intro f w1 hS hf aA hA
      have r52 := pA 52 1 hA sbMlt9 (by kernel_rfl) zsz rfl (hf 1 (by decide))
      obtain ⟨q9, c9, hv9, _⟩ := (HSR.out.keep (HB.out.trans (hS.mono HB.out.size)))
      exact fV rfl rfl _ (ex_len 26 47 (.tmp 52) rfl (by kernel_rfl) q9 (R).length c9 (r52.trans hv9)) hS uS
     ·intro f w1 hS hf aA hA
      have r51 := pA 51 0 hA sbMlt9 (by kernel_rfl) zsz rfl (hf 0 (by decide))
      have r53 := pA 53 2 hA sbMlt9 (by kernel_rfl) zsz rfl (hf 2 (by decide))
      exact fV rfl rfl _ (Eq.trans (ex_int .lss _ _ (.tmp 51) (.tmp 53) rfl .i64 ((i : Int)) (((R).length : Int)) r51 r53 (.bool (decide (((i : Int)) < (((R).length : Int))))) (fun _ => rfl)) (by rw [HLT.out])) hS uS
     ·intro f w1 hS hf aA hA
      have r54 := pA 54 3 hA sbMlt9 (by kernel_rfl) zsz rfl (hf 3 (by decide))
      exact fV rfl rfl _ (ex_move (.tmp 54) rfl r54) hS uS
     ·intro f w1 hS hf aA hA
      have t55 := pG 55 4 hA sbMlt9 (by kernel_rfl) zsz rfl (hf 4 (by decide))
      have r13 := pO 13 hA (by kernel_rfl) z13
      exact fV rfl ((wanted_of rfl 55 rfl t55).trans rfl) _ (ex_move (.tmp 13) rfl r13) hS uS
     ·intro f w1 hS hf aA hA
      have t55 := pG 55 4 hA sbMlt9 (by kernel_rfl) zsz rfl (hf 4 (by decide))
      have r11 := pO 11 hA (by kernel_rfl) z11
      exact fV rfl ((wanted_of rfl 55 rfl t55).trans rfl) _ (fldT1 28 (Or.inl rfl) (.tmp 11) rfl b5_8 r11) hS uS
     ·intro f w1 hS hf aA hA
      have t55 := pG 55 4 hA sbMlt9 (by kernel_rfl) zsz rfl (hf 4 (by decide))
      have r57 := pA 57 6 hA sbMlt9 (by kernel_rfl) zsz rfl (hf 6 (by decide))
      exact fV rfl ((wanted_of rfl 55 rfl t55).trans rfl) _ (ex_load1 26 (.tmp 57) rfl ⟨b5_8, 1, none⟩ r57 (fun _ => by kernel_rfl) ((HX_b5_8.out.keepB hS).cellv rfl)) hS uS
     ·intro f w1 hS hf aA hA
      have t55 := pG 55 4 hA sbMlt9 (by kernel_rfl) zsz rfl (hf 4 (by decide))
      have r58 := pA 58 7 hA sbMlt9 (by kernel_rfl) zsz rfl (hf 7 (by decide))
      obtain ⟨q9, c9, hv9, _⟩ := (HT.out.keep hS).cs
      exact fV rfl ((wanted_of rfl 55 rfl t55).trans rfl) _ (Eq.trans (ex_len 26 47 (.tmp 58) rfl (by kernel_rfl) q9 (T).length c9 (r58.trans hv9)) (by rw [show (((T).length : Nat) : Int) = (m : Int) from (by rw [HTL.out])])) hS uS
     ·intro f w1 hS hf aA hA
      have t55 := pG 55 4 hA sbMlt9 (by kernel_rfl) zsz rfl (hf 4 (by decide))
      have r56 := pA 56 5 hA sbMlt9 (by kernel_rfl) zsz rfl (hf 5 (by decide))
      have r59 := pA 59 8 hA sbMlt9 (by kernel_rfl) zsz rfl (hf 8 (by decide))
      exact fV rfl ((wanted_of rfl 55 rfl t55).trans rfl) _ (Eq.trans (ex_int .lss _ _ (.tmp 56) (.tmp 59) rfl .i64 ((i : Int)) ((m : Int)) r56 r59 (.bool (decide (((i : Int)) < ((m : Int))))) (fun _ => rfl)) (by rw [HLM.out])) hS uS
     ·intro f w1 hS hf aA hA
      have r55 := pA 55 4 hA sbMlt9 (by kernel_rfl) zsz rfl (hf 4 (by decide))
      have r60 := pA 60 9 hA sbMlt9 (by kernel_rfl) zsz rfl (hf 9 (by decide))
      exact fV rfl rfl (.bool true) (ex_pick (.tmp 55) (.tmp 60) _ rfl true r55 ((if_pos rfl).trans r60)) hS uS
    intro f u9 hS hf hap
    have h0 : f 0 = .int .i64 ((i : Int)) := hf 0 (by decide)
    have h1 : f 1 = .slice qr R.length cr := hf 1 (by decide)
    have h2 : f 2 = .int .i64 (((R).length : Int)) := hf 2 (by decide)
    have h3 : f 3 = .bool true := hf 3 (by decide)
    have h4 : f 4 = .bool true := hf 4 (by decide)
    have h5 : f 5 = .int .i64 ((i : Int)) := hf 5 (by decide)
    have h6 : f 6 = .pointer (some ⟨b5_8, 1, none⟩) := hf 6 (by decide)
    have h7 : f 7 = v5_6 := hf 7 (by decide)
    have h8 : f 8 = .int .i64 ((m : Int)) := hf 8 (by decide)
    have h9 : f 9 = .bool true := hf 9 (by decide)
    have h10 : f 10 = .bool true := hf 10 (by decide)
    clear hf hap
    clear zsz z13 z2 z11
    subst ha0
    simp only [slotsMlt9, putAll, h0, h1, h2, h3, h4, h5, h6, h7, h8, h9, h10, Act.put, List.setIfInBounds_toArray, List.set_cons_zero, List.set_cons_succ]
    clear h0 h1 h2 h3 h4 h5 h6 h7 h8 h9 h10
    refine tl_nil ?_
    replace HT := Lib.hid (HT.out.keep hS)
    replace HX_b5_8 := Lib.hid (HX_b5_8.out.keepB hS)
    replace HB := Lib.hid (HB.out.trans (hS.mono HB.out.size))
    clear hS
    have hiT : i < T.length := by rw [HTL.out]; exact hlm
    obtain ⟨pa, pc, hpv, _, hcell⟩ := (HSR.out.keep HB.out).el hlt
    have HPV := Lib.hid hpv
    have HCL := Lib.hid hcell
    clear hpv hcell
    have HOC := Lib.hid (HRO.out R[i] (List.getElem_mem hlt))
    obtain ⟨cl, hcl⟩ : ∃ cl, R[i] = cl := ⟨_, rfl⟩
    rw [hcl] at HCL HOC
    clear hcl
    obtain ⟨d0, hd0⟩ : ∃ d0, (cl.1 != (0 : Int)) = d0 := ⟨_, rfl⟩
    have HD0 := Lib.hid hd0
    clear hd0
    cases d0
    ·go_upto_region 11 with fail
     refine wp_act (fun a0 ha0 => ?_)
     have zsz : a0.tmps.size = 135 := by rw [ha0]; rfl
     have z2 : a0.eval (.tmp 2) = .slice qr R.length cr := by rw [ha0]; rfl
     have z13 : a0.eval (.tmp 13) = .int .i64 ((i : Int)) := by rw [ha0]; rfl
     refine wrO [] slotsMlf11 waitMlf11 [Fct.val Flz 0 (.slice qr R.length cr), Fct.val Flz 1 (.int .i64 ((i : Int))), Fct.val Flz 2 (.pointer (some (pa.add (i * 65)))), Fct.val Flz 3 (.pointer (some (pa.add (i * 65)))), Fct.val Flz 4 (.int .i64 (cl.1)), Fct.val Flz 5 (.bool false)] (fun w' => Below u9.heap.size u9 w') _ 6 0 chkMlf11 (by kernel_rfl) (by kernel_rfl) (by kernel_rfl) (by decide) (Below.refl _ _) ?_ ?_
     ·refine lt_s (lt_s (lt_s (lt_s (lt_s (lt_s (lt_0) ?_) ?_) ?_) ?_) ?_) ?_
      ·intro f w1 hS hf aA hA
       have r2 := pO 2 hA (by kernel_rfl) z2
       exact fV rfl rfl _ (ex_move (.tmp 2) rfl r2) hS uS
      ·intro f w1 hS hf aA hA
       have r13 := pO 13 hA (by kernel_rfl) z13
       exact fV rfl rfl _ (ex_move (.tmp 13) rfl r13) hS uS
      ·intro f w1 hS hf aA hA
       have r64 := pA 64 0 hA sbMlf11 (by kernel_rfl) zsz rfl (hf 0 (by decide))
       have r65 := pA 65 1 hA sbMlf11 (by kernel_rfl) zsz rfl (hf 1 (by decide))
       exact fV rfl rfl _ (ex_indexS 26 47 (.tmp 64) (.tmp 65) rfl pa R.length pc i 65 (by kernel_rfl) (fun _ => by kernel_rfl) (Eq.trans r64 HPV.out) r65 hlt) hS uS
      ·intro f w1 hS hf aA hA
       have r66 := pA 66 2 hA sbMlf11 (by kernel_rfl) zsz rfl (hf 2 (by decide))
       exact fV rfl rfl _ (fldA0C (.tmp 66) rfl _ r66) hS uS
      ·intro f w1 hS hf aA hA
       have r67 := pA 67 3 hA sbMlf11 (by kernel_rfl) zsz rfl (hf 3 (by decide))
       exact fV rfl rfl _ (ex_load1 2 (.tmp 67) rfl (pa.add (i * 65)) r67 (fun _ => by kernel_rfl) (cell0 (HCL.out w1 hS.block))) hS uS
      ·intro f w1 hS hf aA hA
       have r68 := pA 68 4 hA sbMlf11 (by kernel_rfl) zsz rfl (hf 4 (by decide))
       exact fV rfl rfl _ (Eq.trans (ex_int .neq _ _ (.tmp 68) _ rfl .i64 cl.1 0 r68 rfl (.bool (cl.1 != (0 : Int))) (fun _ => rfl)) (by rw [HD0.out])) hS uS
     intro f u11 hS hf hap
     have h0 : f 0 = .slice qr R.length cr := hf 0 (by decide)
     have h1 : f 1 = .int .i64 ((i : Int)) := hf 1 (by decide)
     have h2 : f 2 = .pointer (some (pa.add (i * 65))) := hf 2 (by decide)
     have h3 : f 3 = .pointer (some (pa.add (i * 65))) := hf 3 (by decide)
     have h4 : f 4 = .int .i64 (cl.1) := hf 4 (by decide)
     have h5 : f 5 = .bool false := hf 5 (by decide)
     clear hf hap
     clear zsz z2 z13
     subst ha0
     simp only [slotsMlf11, putAll, h0, h1, h2, h3, h4, h5, Act.put, List.setIfInBounds_toArray, List.set_cons_zero, List.set_cons_succ]
     clear h0 h1 h2 h3 h4 h5
     refine tl_nil ?_
     replace HT := Lib.hid (HT.out.keep hS)
     replace HX_b5_8 := Lib.hid (HX_b5_8.out.keepB hS)
     replace HB := Lib.hid (HB.out.trans (hS.mono HB.out.size))
     clear hS
     go_wp2_with fail
     go_roundw
     case rel => exact ⟨i + 1, by omega, by omega, by go_num, ⟨T, HTL.out, HTO.out, HT.out⟩, HX_b5_8.out, HB.out⟩
     case measure => simp [intOf]; omega
    ·go_upto_region 11 with fail
     refine wp_act (fun a0 ha0 => ?_)
     have zsz : a0.tmps.size = 135 := by rw [ha0]; rfl
     have z2 : a0.eval (.tmp 2) = .slice qr R.length cr := by rw [ha0]; rfl
     have z13 : a0.eval (.tmp 13) = .int .i64 ((i : Int)) := by rw [ha0]; rfl
     refine wrO [] slotsMlf11 waitMlf11 [Fct.val Flz 0 (.slice qr R.length cr), Fct.val Flz 1 (.int .i64 ((i : Int))), Fct.val Flz 2 (.pointer (some (pa.add (i * 65)))), Fct.val Flz 3 (.pointer (some (pa.add (i * 65)))), Fct.val Flz 4 (.int .i64 (cl.1)), Fct.val Flz 5 (.bool true)] (fun w' => Below u9.heap.size u9 w') _ 6 0 chkMlf11 (by kernel_rfl) (by kernel_rfl) (by kernel_rfl) (by decide) (Below.refl _ _) ?_ ?_
     ·refine lt_s (lt_s (lt_s (lt_s (lt_s (lt_s (lt_0) ?_) ?_) ?_) ?_) ?_) ?_
      ·intro f w1 hS hf aA hA
       have r2 := pO 2 hA (by kernel_rfl) z2
       exact fV rfl rfl _ (ex_move (.tmp 2) rfl r2) hS uS
      ·intro f w1 hS hf aA hA
       have r13 := pO 13 hA (by kernel_rfl) z13
       exact fV rfl rfl _ (ex_move (.tmp 13) rfl r13) hS uS
      ·intro f w1 hS hf aA hA
       have r64 := pA 64 0 hA sbMlf11 (by kernel_rfl) zsz rfl (hf 0 (by decide))
       have r65 := pA 65 1 hA sbMlf11 (by kernel_rfl) zsz rfl (hf 1 (by decide))
       exact fV rfl rfl _ (ex_indexS 26 47 (.tmp 64) (.tmp 65) rfl pa R.length pc i 65 (by kernel_rfl) (fun _ => by kernel_rfl) (Eq.trans r64 HPV.out) r65 hlt) hS uS
      ·intro f w1 hS hf aA hA
       have r66 := pA 66 2 hA sbMlf11 (by kernel_rfl) zsz rfl (hf 2 (by decide))
       exact fV rfl rfl _ (fldA0C (.tmp 66) rfl _ r66) hS uS
      ·intro f w1 hS hf aA hA
       have r67 := pA 67 3 hA sbMlf11 (by kernel_rfl) zsz rfl (hf 3 (by decide))
       exact fV rfl rfl _ (ex_load1 2 (.tmp 67) rfl (pa.add (i * 65)) r67 (fun _ => by kernel_rfl) (cell0 (HCL.out w1 hS.block))) hS uS
      ·intro f w1 hS hf aA hA
       have r68 := pA 68 4 hA sbMlf11 (by kernel_rfl) zsz rfl (hf 4 (by decide))
       exact fV rfl rfl _ (Eq.trans (ex_int .neq _ _ (.tmp 68) _ rfl .i64 cl.1 0 r68 rfl (.bool (cl.1 != (0 : Int))) (fun _ => rfl)) (by rw [HD0.out])) hS uS
     intro f u11 hS hf hap
     have h0 : f 0 = .slice qr R.length cr := hf 0 (by decide)
     have h1 : f 1 = .int .i64 ((i : Int)) := hf 1 (by decide)
     have h2 : f 2 = .pointer (some (pa.add (i * 65))) := hf 2 (by decide)
     have h3 : f 3 = .pointer (some (pa.add (i * 65))) := hf 3 (by decide)
     have h4 : f 4 = .int .i64 (cl.1) := hf 4 (by decide)
     have h5 : f 5 = .bool true := hf 5 (by decide)
     clear hf hap
     clear zsz z2 z13
     subst ha0
     simp only [slotsMlf11, putAll, h0, h1, h2, h3, h4, h5, Act.put, List.setIfInBounds_toArray, List.set_cons_zero, List.set_cons_succ]
     clear h0 h1 h2 h3 h4 h5
     refine tl_nil ?_
     replace HT := Lib.hid (HT.out.keep hS)
     replace HX_b5_8 := Lib.hid (HX_b5_8.out.keepB hS)
     replace HB := Lib.hid (HB.out.trans (hS.mono HB.out.size))
     have HS9 := Lib.hid hS
     clear hS
     have HCL2 : Hid (∀ w' : World, (∀ k, k < u11.heap.size → w'.heap[k]? = u11.heap[k]?) → ∀ j u, (encC cl)[j]? = some u → w'.cell? ((pa.add (i * 65)).add j) = some u) := Lib.hid (fun w' hw => HCL.out w' fun k hk => (hw k (Nat.lt_of_lt_of_le hk HS9.out.size)).trans (HS9.out.block k hk))
     obtain ⟨gg, cap2, hgv, hgb, hgl, hel⟩ := HT.out.el hiT
     have HGV2 := Lib.hid hgv
     have HGB2 := Lib.hid hgb
     clear hgv hgb hgl hel
     go_upto_region 12 with fail
     have HST : Hid (Below u11.heap.size u11 u11.drew) := Lib.hid (Below.refl _ _).drew
     replace HT := Lib.hid (HT.out.keep HST.out)
     replace HX_b5_8 := Lib.hid (HX_b5_8.out.keepB HST.out)
     replace HB := Lib.hid (HB.out.trans (HST.out.mono HB.out.size))
     clear HST
     refine wp_act (fun a0 ha0 => ?_)
     have zsz : a0.tmps.size = 135 := by rw [ha0]; rfl
     have z11 : a0.eval (.tmp 11) = .pointer (some ⟨b5_8, 0, none⟩) := by rw [ha0]; rfl
     have z13 : a0.eval (.tmp 13) = .int .i64 ((i : Int)) := by rw [ha0]; rfl
     have z2 : a0.eval (.tmp 2) = .slice qr R.length cr := by rw [ha0]; rfl
     refine wrD [] slotsMlt12 waitMlt12 [Fct.val Flz 0 (.pointer (some ⟨b5_8, 1, none⟩)), Fct.val Flz 1 (v5_6), Fct.val Flz 2 (.int .i64 ((i : Int))), Fct.val Flz 3 (.slice qr R.length cr), Fct.val Flz 4 (.int .i64 ((i : Int))), Fct.val Flz 5 (.pointer (some (pa.add (i * 65)))), Fct.val Flz 6 (aggC cl), Fct.val Flz 7 (.pointer (some ((⟨gg, 0, none⟩ : Addr).add (i * 65))))] (fun w' => Below u11.drew.heap.size u11.drew w') _ 8 1 chkMlt12 (by kernel_rfl) (by kernel_rfl) (by kernel_rfl) (by kernel_rfl) (by decide) (Below.refl _ _) ?_ ?_
     ·refine lt_s (lt_s (lt_s (lt_s (lt_s (lt_s (lt_s (lt_s (lt_0) ?_) ?_) ?_) ?_) ?_) ?_) ?_) ?_
      ·intro f w1 hS hf aA hA
       have r11 := pO 11 hA (by kernel_rfl) z11
       exact fV rfl rfl _ (fldT1 28 (Or.inl rfl) (.tmp 11) rfl b5_8 r11) hS uS
      ·intro f w1 hS hf aA hA
       have r70 := pA 70 0 hA sbMlt12 (by kernel_rfl) zsz rfl (hf 0 (by decide))
       exact fV rfl rfl _ (ex_load1 26 (.tmp 70) rfl ⟨b5_8, 1, none⟩ r70 (fun _ => by kernel_rfl) ((HX_b5_8.out.keepB hS).cellv rfl)) hS uS
      ·intro f w1 hS hf aA hA
       have r13 := pO 13 hA (by kernel_rfl) z13
       exact fV rfl rfl _ (ex_move (.tmp 13) rfl r13) hS uS
      ·intro f w1 hS hf aA hA
       have r2 := pO 2 hA (by kernel_rfl) z2
       exact fV rfl rfl _ (ex_move (.tmp 2) rfl r2) hS uS
      ·intro f w1 hS hf aA hA
       have r13 := pO 13 hA (by kernel_rfl) z13
       exact fV rfl rfl _ (ex_move (.tmp 13) rfl r13) hS uS
      ·intro f w1 hS hf aA hA
       have r73 := pA 73 3 hA sbMlt12 (by kernel_rfl) zsz rfl (hf 3 (by decide))
       have r74 := pA 74 4 hA sbMlt12 (by kernel_rfl) zsz rfl (hf 4 (by decide))
       exact fV rfl rfl _ (ex_indexS 26 47 (.tmp 73) (.tmp 74) rfl pa R.length pc i 65 (by kernel_rfl) (fun _ => by kernel_rfl) (Eq.trans r73 HPV.out) r74 hlt) hS uS
      ·intro f w1 hS hf aA hA
       have r75 := pA 75 5 hA sbMlt12 (by kernel_rfl) zsz rfl (hf 5 (by decide))
       exact fV rfl rfl _ (ex_loadR 47 (.tmp 75) rfl (pa.add (i * 65)) r75 (fun _ => by kernel_rfl) (encC cl) (by rw [encC_len]; kernel_rfl) (HCL2.out w1 hS.block)) hS uS
      ·intro f w1 hS hf aA hA
       have r71 := pA 71 1 hA sbMlt12 (by kernel_rfl) zsz rfl (hf 1 (by decide))
       have r72 := pA 72 2 hA sbMlt12 (by kernel_rfl) zsz rfl (hf 2 (by decide))
       exact fV rfl rfl _ (ex_indexS 26 47 (.tmp 71) (.tmp 72) rfl (⟨gg, 0, none⟩ : Addr) T.length cap2 i 65 (by kernel_rfl) (fun _ => by kernel_rfl) (Eq.trans r71 HGV2.out) r72 hiT) hS uS
     intro f u12 hS hf hap
     have h0 : f 0 = .pointer (some ⟨b5_8, 1, none⟩) := hf 0 (by decide)
     have h1 : f 1 = v5_6 := hf 1 (by decide)
     have h2 : f 2 = .int .i64 ((i : Int)) := hf 2 (by decide)
     have h3 : f 3 = .slice qr R.length cr := hf 3 (by decide)
     have h4 : f 4 = .int .i64 ((i : Int)) := hf 4 (by decide)
     have h5 : f 5 = .pointer (some (pa.add (i * 65))) := hf 5 (by decide)
     have h6 : f 6 = aggC cl := hf 6 (by decide)
     have h7 : f 7 = .pointer (some ((⟨gg, 0, none⟩ : Addr).add (i * 65))) := hf 7 (by decide)
     clear hf hap
     clear zsz z11 z13 z2
     subst ha0
     simp only [slotsMlt12, putAll, h0, h1, h2, h3, h4, h5, h6, h7, Act.put, List.setIfInBounds_toArray, List.set_cons_zero, List.set_cons_succ]
     clear h0 h1 h2 h3 h4 h5 h6 h7
     have HT12 := Lib.hid (HT.out.keep hS)
     have HX12 := Lib.hid (HX_b5_8.out.keepB hS)
     have HB12 := Lib.hid (HB.out.trans (hS.mono HB.out.size))
     clear HT HX_b5_8 HB hS
     refine tl_step rfl rfl (fun K hK => wp_store_ce 47 (by kernel_rfl) (.tmp 77) (.tmp 76) rfl u1.heap.size 47 v5_6 _ HT12.out gg cap2 i HGV2.out hiT rfl cl rfl (fun u15 hR hbl hgr => hK _ _ ?_))
     have HT : Hid (RowO u1.heap.size 47 u15 v5_6 (T.set i cl)) := Lib.hid hR
     have HX_b5_8 : Hid (Has u15 b5_8 28 [.int .u64 (s : Int), v5_6]) := Lib.hid ((hgr.block _ HX12.out.lt (fun e => (HX12.out.blkT.ne (HT12.out.blkT gg (by rw [HGV2.out]; rfl)) (by decide)) (Option.some.inj e))).trans HX12.out)
     have HB := Lib.hid (HB12.out.grown hgr HB12.out.size (fun k' hk' => by obtain rfl := Option.some.inj hk'; exact Nat.le_trans HW1.out HGB2.out))
     clear hR hbl hgr HT12 HX12 HB12
     refine tl_nilN ?_
     try simp only [Act.put]
     go_wp2_with fail
     go_roundw
     case rel => exact ⟨i + 1, by omega, by omega, by go_num, ⟨T.set i cl, by rw [List.length_set]; exact HTL.out, okT_set HTO.out i HOC.out, HT.out⟩, HX_b5_8.out, HB.out⟩
     case measure => simp [intOf]; omega
   ·obtain ⟨d1, hd1⟩ : ∃ d, decide ((i : Int) < ((R).length : Int)) = d := ⟨_, rfl⟩
    have HD1 := Lib.hid hd1
    have HDX : Hid (d1 = true → decide ((i : Int) < ((T).length : Int)) = false) := Lib.hid (fun h => by
     have h5 := of_decide_eq_true (hd1.trans h)
     have h6 := HTL.out
     exact decide_eq_false (by omega))
    clear hd1
    go_upto_region 9 with fail
    refine wp_act (fun a0 ha0 => ?_)
    have zsz : a0.tmps.size = 135 := by rw [ha0]; rfl
    have z13 : a0.eval (.tmp 13) = .int .i64 ((i : Int)) := by rw [ha0]; rfl
    have z2 : a0.eval (.tmp 2) = .slice qr R.length cr := by rw [ha0]; rfl
    have z11 : a0.eval (.tmp 11) = .pointer (some ⟨b5_8, 0, none⟩) := by rw [ha0]; rfl
    refine wrO [] slotsMlt9 waitMlt9 [Fct.val Flz 0 (.int .i64 ((i : Int))), Fct.val Flz 1 (.slice qr R.length cr), Fct.val Flz 2 (.int .i64 (((R).length : Int))), Fct.val Flz 3 (.bool d1), Fct.val Flz 4 (.bool d1), Fct.obj 5 (fun v _ => d1 = true → v = .int .i64 (i : Int)) (fun _ _ _ h _ => h), Fct.obj 6 (fun v _ => d1 = true → v = .pointer (some ⟨b5_8, 1, none⟩)) (fun _ _ _ h _ => h), Fct.obj 7 (fun v _ => d1 = true → v = v5_6) (fun _ _ _ h _ => h), Fct.obj 8 (fun v _ => d1 = true → v = .int .i64 ((T).length : Int)) (fun _ _ _ h _ => h), Fct.obj 9 (fun v _ => d1 = true → v = .bool (decide ((i : Int) < ((T).length : Int)))) (fun _ _ _ h _ => h), Fct.val Flz 10 (.bool false)] (fun w' => Below wr.heap.size wr w') _ 11 0 chkMlt9 (by kernel_rfl) (by kernel_rfl) (by kernel_rfl) (by decide) (Below.refl _ _) ?_ ?_
    ·refine lt_s (lt_s (lt_s (lt_s (lt_s (lt_s (lt_s (lt_s (lt_s (lt_s (lt_s (lt_0) ?_) ?_) ?_) ?_) ?_) ?_) ?_) ?_) ?_) ?_) ?_
     ·intro f w1 hS hf aA hA
      have r13 := pO 13 hA (by kernel_rfl) z13
      exact fV rfl rfl _ (ex_move (.tmp 13) rfl r13) hS uS
     ·intro f w1 hS hf aA hA
      have r2 := pO 2 hA (by kernel_rfl) z2
      exact fV rfl rfl _ (ex_move (.tmp 2) rfl r2) hS uS
     ·intro f w1 hS hf aA hA
      have r52 := pA 52 1 hA sbMlt9 (by kernel_rfl) zsz rfl (hf 1 (by decide))
      obtain ⟨q9, c9, hv9, _⟩ := (HSR.out.keep (HB.out.trans (hS.mono HB.out.size)))
      exact fV rfl rfl _ (ex_len 26 47 (.tmp 52) rfl (by kernel_rfl) q9 (R).length c9 (r52.trans hv9)) hS uS
     ·intro f w1 hS hf aA hA
      have r51 := pA 51 0 hA sbMlt9 (by kernel_rfl) zsz rfl (hf 0 (by decide))
      have r53 := pA 53 2 hA sbMlt9 (by kernel_rfl) zsz rfl (hf 2 (by decide))
      exact fV rfl rfl _ (Eq.trans (ex_int .lss _ _ (.tmp 51) (.tmp 53) rfl .i64 ((i : Int)) (((R).length : Int)) r51 r53 (.bool (decide (((i : Int)) < (((R).length : Int))))) (fun _ => rfl)) (by rw [HD1.out])) hS uS
     ·intro f w1 hS hf aA hA
      have r54 := pA 54 3 hA sbMlt9 (by kernel_rfl) zsz rfl (hf 3 (by decide))
      exact fV rfl rfl _ (ex_move (.tmp 54) rfl r54) hS uS
     ·intro f w1 hS hf aA hA
      have r13 := pO 13 hA (by kernel_rfl) z13
      have t55 := pG 55 4 hA sbMlt9 (by kernel_rfl) zsz rfl (hf 4 (by decide))
      by_cases hd : d1 = true
      ·exact flw_val rfl ((wanted_of rfl 55 rfl t55).trans (by rw [hd]; rfl)) (.int .i64 (i : Int)) (ex_move (.tmp 13) rfl r13) hS (Flz.refl _) (fun _ => uS)
      ·exact flw_skip rfl ((wanted_of rfl 55 rfl t55).trans (by rw [Bool.eq_false_iff.2 hd]; rfl)) hS (Flz.refl _) (fun h => absurd h hd)
     ·intro f w1 hS hf aA hA
      have r11 := pO 11 hA (by kernel_rfl) z11
      have t55 := pG 55 4 hA sbMlt9 (by kernel_rfl) zsz rfl (hf 4 (by decide))
      by_cases hd : d1 = true
      ·exact flw_val rfl ((wanted_of rfl 55 rfl t55).trans (by rw [hd]; rfl)) (.pointer (some ⟨b5_8, 1, none⟩)) (fldT1 28 (Or.inl rfl) (.tmp 11) rfl b5_8 r11) hS (Flz.refl _) (fun _ => uS)
      ·exact flw_skip rfl ((wanted_of rfl 55 rfl t55).trans (by rw [Bool.eq_false_iff.2 hd]; rfl)) hS (Flz.refl _) (fun h => absurd h hd)
     ·intro f w1 hS hf aA hA
      have t55 := pG 55 4 hA sbMlt9 (by kernel_rfl) zsz rfl (hf 4 (by decide))
      by_cases hd : d1 = true
      ·have h57 : f 6 = .pointer (some ⟨b5_8, 1, none⟩) := hf 6 (by decide) hd
       have r57 := pA 57 6 hA sbMlt9 (by kernel_rfl) zsz rfl h57
       exact flw_val rfl ((wanted_of rfl 55 rfl t55).trans (by rw [hd]; rfl)) (v5_6) (ex_load1 26 (.tmp 57) rfl ⟨b5_8, 1, none⟩ r57 (fun _ => by kernel_rfl) ((HX_b5_8.out.keepB hS).cellv rfl)) hS (Flz.refl _) (fun _ => uS)
      ·exact flw_skip rfl ((wanted_of rfl 55 rfl t55).trans (by rw [Bool.eq_false_iff.2 hd]; rfl)) hS (Flz.refl _) (fun h => absurd h hd)
     ·intro f w1 hS hf aA hA
      have t55 := pG 55 4 hA sbMlt9 (by kernel_rfl) zsz rfl (hf 4 (by decide))
      by_cases hd : d1 = true
      ·have h58 : f 7 = v5_6 := hf 7 (by decide) hd
       have r58 := pA 58 7 hA sbMlt9 (by kernel_rfl) zsz rfl h58
       obtain ⟨q9, c9, hv9, _⟩ := (HT.out.keep hS).cs
       exact flw_val rfl ((wanted_of rfl 55 rfl t55).trans (by rw [hd]; rfl)) (.int .i64 ((T).length : Int)) (ex_len 26 47 (.tmp 58) rfl (by kernel_rfl) q9 (T).length c9 (r58.trans hv9)) hS (Flz.refl _) (fun _ => uS)
      ·exact flw_skip rfl ((wanted_of rfl 55 rfl t55).trans (by rw [Bool.eq_false_iff.2 hd]; rfl)) hS (Flz.refl _) (fun h => absurd h hd)
     ·intro f w1 hS hf aA hA
      have t55 := pG 55 4 hA sbMlt9 (by kernel_rfl) zsz rfl (hf 4 (by decide))
      by_cases hd : d1 = true
      ·have h56 : f 5 = .int .i64 (i : Int) := hf 5 (by decide) hd
       have r56 := pA 56 5 hA sbMlt9 (by kernel_rfl) zsz rfl h56
       have h59 : f 8 = .int .i64 ((T).length : Int) := hf 8 (by decide) hd
       have r59 := pA 59 8 hA sbMlt9 (by kernel_rfl) zsz rfl h59
       exact flw_val rfl ((wanted_of rfl 55 rfl t55).trans (by rw [hd]; rfl)) (.bool (decide ((i : Int) < ((T).length : Int)))) (ex_int .lss _ _ (.tmp 56) (.tmp 59) rfl .i64 (i : Int) ((T).length : Int) r56 r59 (.bool (decide ((i : Int) < ((T).length : Int)))) (fun _ => rfl)) hS (Flz.refl _) (fun _ => uS)
      ·exact flw_skip rfl ((wanted_of rfl 55 rfl t55).trans (by rw [Bool.eq_false_iff.2 hd]; rfl)) hS (Flz.refl _) (fun h => absurd h hd)
     ·intro f w1 hS hf aA hA
      have r55 := pA 55 4 hA sbMlt9 (by kernel_rfl) zsz rfl (hf 4 (by decide))
      by_cases hd : d1 = true
      ·have h60 : f 9 = .bool (decide ((i : Int) < ((T).length : Int))) := hf 9 (by decide) hd
       have r60 := pA 60 9 hA sbMlt9 (by kernel_rfl) zsz rfl h60
       exact fV rfl rfl (.bool false) (Eq.trans (ex_pick (.tmp 55) (.tmp 60) _ rfl true (Eq.trans r55 (by rw [hd])) ((if_pos rfl).trans r60)) (by rw [HDX.out hd])) hS uS
      ·exact flw_val rfl rfl (.bool false) (ex_pick (.tmp 55) (.tmp 60) _ rfl false (Eq.trans r55 (by rw [Bool.eq_false_iff.2 hd])) ((if_neg (by decide)).trans rfl)) hS (Flz.refl _) uS
    intro f u9 hS hf hap
    have h0 : f 0 = .int .i64 ((i : Int)) := hf 0 (by decide)
    have h1 : f 1 = .slice qr R.length cr := hf 1 (by decide)
    have h2 : f 2 = .int .i64 (((R).length : Int)) := hf 2 (by decide)
    have h3 : f 3 = .bool d1 := hf 3 (by decide)
    have h4 : f 4 = .bool d1 := hf 4 (by decide)
    obtain ⟨v9_5, h5⟩ : ∃ v, f 5 = v := ⟨_, rfl⟩
    obtain ⟨v9_6, h6⟩ : ∃ v, f 6 = v := ⟨_, rfl⟩
    obtain ⟨v9_7, h7⟩ : ∃ v, f 7 = v := ⟨_, rfl⟩
    obtain ⟨v9_8, h8⟩ : ∃ v, f 8 = v := ⟨_, rfl⟩
    obtain ⟨v9_9, h9⟩ : ∃ v, f 9 = v := ⟨_, rfl⟩
    have h10 : f 10 = .bool false := hf 10 (by decide)
    clear hf hap
    clear zsz z13 z2 z11
    subst ha0
    simp only [slotsMlt9, putAll, h0, h1, h2, h3, h4, h5, h6, h7, h8, h9, h10, Act.put, List.setIfInBounds_toArray, List.set_cons_zero, List.set_cons_succ]
    clear h0 h1 h2 h3 h4 h5 h6 h7 h8 h9 h10
    refine tl_nil ?_
    replace HT := Lib.hid (HT.out.keep hS)
    replace HX_b5_8 := Lib.hid (HX_b5_8.out.keepB hS)
    replace HB := Lib.hid (HB.out.trans (hS.mono HB.out.size))
    clear hS
    go_upto_region 13 with fail
    refine wp_act (fun a0 ha0 => ?_)
    have zsz : a0.tmps.size = 135 := by rw [ha0]; rfl
    have z4 : a0.eval (.tmp 4) = .slice qb lb.length cb := by rw [ha0]; rfl
    refine wrO [] slotsMb13 waitMb13 [Fct.val Flz 0 (.slice qb lb.length cb), Fct.obj 1 (fun v w => Us w v (srt ((lb).map fewS))) (fun _ _ _ h he => h.flz he), (⟨([2, 1], fun f _ => f 2 = f 1), fun f f' _ _ h _ hd => (show f' 2 = f' 1 by rw [hd 2 (by simp), hd 1 (by simp)]; exact h)⟩ : Fct Flz)] (fun w' => Below u9.heap.size u9 w') _ 3 0 chkMb13 (by kernel_rfl) (by kernel_rfl) (by kernel_rfl) (by decide) (Below.refl _ _) ?_ ?_
    ·refine lt_s (lt_s (lt_s (lt_0) ?_) ?_) ?_
     ·intro f w1 hS hf aA hA
      have r4 := pO 4 hA (by kernel_rfl) z4
      exact fV rfl rfl _ (ex_move (.tmp 4) rfl r4) hS uS
     ·intro f w1 hS hf aA hA
      have r78 := pA 78 0 hA sbMb13 (by kernel_rfl) zsz rfl (hf 0 (by decide))
      exact flw_call rfl rfl 12 #[(.tmp 78)] _ rfl #[.slice qb lb.length cb] (mp1 r78) (fun w => by kernel_rfl) (fun v w' => Us w' v (srt ((lb).map fewS))) (few16_us _ (lb) w1 (HL.out.keep (HB.out.trans (hS.mono HB.out.size)) HSZ.out) (Nat.le_trans HLB.out (by decide)) (HSB.out.keep (HB.out.trans (hS.mono HB.out.size)))) (fun v w' hr hb => ⟨hS.trans (hb.mono hS.size), Flz.of hb, (show Us w' (updF f 1 v 1) (srt ((lb).map fewS)) by rw [updF_self]; exact hr)⟩)
     ·intro f w1 hS hf aA hA
      have hu1 : Us w1 (f 1) (srt ((lb).map fewS)) := (hf 1 (by decide))
      have e79 := pA 79 1 hA sbMb13 (by kernel_rfl) zsz rfl rfl
      exact flw_val rfl rfl (f 1) (ex_assign (.tmp 79) rfl e79) hS (Flz.refl _) (show updF f 2 (f 1) 2 = updF f 2 (f 1) 1 by rw [updF_self, updF_ne f _ (by decide)])
    intro f u13 hS hf hap
    have h0 : f 0 = .slice qb lb.length cb := hf 0 (by decide)
    obtain ⟨v13_1, h1, hu1⟩ : ∃ v, f 1 = v ∧ Us u13 v (srt ((lb).map fewS)) := ⟨_, rfl, (hf 1 (by decide))⟩
    have HU13_1 := Lib.hid hu1
    clear hu1
    have h2 : f 2 = v13_1 := Eq.trans (hf 2 (by decide)) h1
    clear hf hap
    clear zsz z4
    subst ha0
    simp only [slotsMb13, putAll, h0, h1, h2, Act.put, List.setIfInBounds_toArray, List.set_cons_zero, List.set_cons_succ]
    clear h0 h1 h2
    refine tl_nil ?_
    replace HT := Lib.hid (HT.out.keep hS)
    replace HX_b5_8 := Lib.hid (HX_b5_8.out.keepB hS)
    replace HB := Lib.hid (HB.out.trans (hS.mono HB.out.size))
    clear hS
    have HGT : Hid (goodN ((T).length : Int) = true) := Lib.hid (by rw [HTL.out]; exact HGM.out)
    have HTM : Hid ((T).length ≤ 100000) := Lib.hid (by rw [HTL.out]; have := HM4.out; omega)
    obtain ⟨q, hq⟩ : ∃ q, ownQ s T (srt ((lb).map fewS)) = q := ⟨_, rfl⟩
    have HQQ := Lib.hid hq
    obtain ⟨ok, hok⟩ : ∃ ok, ownB (srt ((lb).map fewS)) q = ok := ⟨_, rfl⟩
    have HOK := Lib.hid hok
    clear hok hq
    cases ok
    ·go_upto_region 14 with fail
     refine wp_act (fun a0 ha0 => ?_)
     have zsz : a0.tmps.size = 135 := by rw [ha0]; rfl
     have z11 : a0.eval (.tmp 11) = .pointer (some ⟨b5_8, 0, none⟩) := by rw [ha0]; rfl
     have z14 : a0.eval (.tmp 14) = v13_1 := by rw [ha0]; rfl
     refine wrO [] slotsMbf14 waitMbf14 [Fct.val Flz 0 (.agg #[.int .u64 (s : Int), v5_6]), Fct.val Flz 1 (v13_1), Fct.obj 2 (fun v w => ∃ zz, v = .tuple #[(fl zz 0), (fl zz 1), .int .i64 10] ∧ OwnR (([] : List Su)) (([] : List Su)) w zz) (fun _ _ _ ⟨zz, a, b⟩ he => ⟨zz, a, b.flz he⟩), Fct.obj 3 (fun v w => ∃ zz, v = .tuple #[(fl zz 0), (fl zz 1), .int .i64 10] ∧ OwnR (([] : List Su)) (([] : List Su)) w zz) (fun _ _ _ ⟨zz, a, b⟩ he => ⟨zz, a, b.flz he⟩), Fct.obj 4 (fun v w => ∃ zz, v = (fl zz 0) ∧ OwnR (([] : List Su)) (([] : List Su)) w zz) (fun _ _ _ ⟨zz, a, b⟩ he => ⟨zz, a, b.flz he⟩), Fct.obj 5 (fun v w => ∃ zz, v = (fl zz 1) ∧ OwnR (([] : List Su)) (([] : List Su)) w zz) (fun _ _ _ ⟨zz, a, b⟩ he => ⟨zz, a, b.flz he⟩), Fct.val Flz 6 (.int .i64 10), Fct.obj 7 (fun v w => ∃ zz, v = (fl zz 0) ∧ OwnR (([] : List Su)) (([] : List Su)) w zz) (fun _ _ _ ⟨zz, a, b⟩ he => ⟨zz, a, b.flz he⟩), Fct.obj 8 (fun v w => ∃ zz, v = (fl zz 1) ∧ OwnR (([] : List Su)) (([] : List Su)) w zz) (fun _ _ _ ⟨zz, a, b⟩ he => ⟨zz, a, b.flz he⟩), Fct.val Flz 9 (.int .i64 10)] (fun w' => Below u13.heap.size u13 w') _ 10 0 chkMbf14 (by kernel_rfl) (by kernel_rfl) (by kernel_rfl) (by decide) (Below.refl _ _) ?_ ?_
     ·refine lt_s (lt_s (lt_s (lt_s (lt_s (lt_s (lt_s (lt_s (lt_s (lt_s (lt_0) ?_) ?_) ?_) ?_) ?_) ?_) ?_) ?_) ?_) ?_
      ·intro f w1 hS hf aA hA
       have r11 := pO 11 hA (by kernel_rfl) z11
       exact fV rfl rfl _ (ex_loadR 28 (.tmp 11) rfl ⟨b5_8, 0, none⟩ r11 (fun _ => by kernel_rfl) [.int .u64 (s : Int), v5_6] (by kernel_rfl) ((HX_b5_8.out.keepB hS).part [.int .u64 (s : Int), v5_6] 0 (fun j u hu => by rw [Nat.zero_add]; exact hu))) hS uS
      ·intro f w1 hS hf aA hA
       have r14 := pO 14 hA (by kernel_rfl) z14
       exact fV rfl rfl _ (ex_move (.tmp 14) rfl r14) hS uS
      ·intro f w1 hS hf aA hA
       have r81 := pA 81 0 hA sbMbf14 (by kernel_rfl) zsz rfl (hf 0 (by decide))
       have r82 := pA 82 1 hA sbMbf14 (by kernel_rfl) zsz rfl (hf 1 (by decide))
       exact fC rfl rfl 13 #[(.tmp 81), (.tmp 82)] _ rfl #[.agg #[.int .u64 (s : Int), v5_6], v13_1] (mp2 r81 r82) (fun w => by kernel_rfl) _ (ownR_f s _ (T) _ (srt ((lb).map fewS)) (by rw [HQQ.out]; exact HOK.out) w1 HSD.out (HL.out.keep (HB.out.trans (hS.mono HB.out.size)) HSZ.out) (Nat.le_trans HTM.out (by decide)) (len_few _ 1000 (Nat.le_trans HLB.out (by decide))) (HT.out.keep hS).cs (HU13_1.out.keep hS) HGT.out (good_few _ (Nat.le_trans HLB.out (by decide)))) hS (fun _ _ ⟨zz, a, b⟩ => ⟨zz, uS.trans a, b⟩)
      ·intro f w1 hS hf aA hA
       obtain ⟨x83, hx83, hr83⟩ := hf 2 (by decide)
       have e83 := pA 83 2 hA sbMbf14 (by kernel_rfl) zsz rfl hx83
       exact flw_val rfl rfl (.tuple #[(fl x83 0), (fl x83 1), .int .i64 10]) (ex_move (.tmp 83) rfl e83) hS (Flz.refl _) ⟨x83, uS, hr83⟩
      ·intro f w1 hS hf aA hA
       obtain ⟨x80, hx80, hr80⟩ := hf 3 (by decide)
       have e80 := pA 80 3 hA sbMbf14 (by kernel_rfl) zsz rfl hx80
       exact flw_val rfl rfl ((fl x80 0)) (ex_extract (.tmp 80) 0 rfl e80 rfl) hS (Flz.refl _) ⟨x80, uS, hr80⟩
      ·intro f w1 hS hf aA hA
       obtain ⟨x80, hx80, hr80⟩ := hf 3 (by decide)
       have e80 := pA 80 3 hA sbMbf14 (by kernel_rfl) zsz rfl hx80
       exact flw_val rfl rfl ((fl x80 1)) (ex_extract (.tmp 80) 1 rfl e80 rfl) hS (Flz.refl _) ⟨x80, uS, hr80⟩
      ·intro f w1 hS hf aA hA
       obtain ⟨x80, hx80, hr80⟩ := hf 3 (by decide)
       have e80 := pA 80 3 hA sbMbf14 (by kernel_rfl) zsz rfl hx80
       exact fV rfl rfl _ (ex_extract (.tmp 80) 2 rfl e80 rfl) hS uS
      ·intro f w1 hS hf aA hA
       obtain ⟨x84, hx84, hr84⟩ := hf 4 (by decide)
       have e84 := pA 84 4 hA sbMbf14 (by kernel_rfl) zsz rfl hx84
       exact flw_val rfl rfl ((fl x84 0)) (ex_assign (.tmp 84) rfl e84) hS (Flz.refl _) ⟨x84, uS, hr84⟩
      ·intro f w1 hS hf aA hA
       obtain ⟨x85, hx85, hr85⟩ := hf 5 (by decide)
       have e85 := pA 85 5 hA sbMbf14 (by kernel_rfl) zsz rfl hx85
       exact flw_val rfl rfl ((fl x85 1)) (ex_assign (.tmp 85) rfl e85) hS (Flz.refl _) ⟨x85, uS, hr85⟩
      ·intro f w1 hS hf aA hA
       have r86 := pA 86 6 hA sbMbf14 (by kernel_rfl) zsz rfl (hf 6 (by decide))
       exact fV rfl rfl _ (ex_assign (.tmp 86) rfl r86) hS uS
     intro f u14 hS hf hap
     have h0 : f 0 = .agg #[.int .u64 (s : Int), v5_6] := hf 0 (by decide)
     have h1 : f 1 = v13_1 := hf 1 (by decide)
     obtain ⟨v14_2, h2, -⟩ := hf 2 (by decide)
     obtain ⟨v14_3, h3, -⟩ := hf 3 (by decide)
     obtain ⟨v14_4, h4, -⟩ := hf 4 (by decide)
     obtain ⟨v14_5, h5, -⟩ := hf 5 (by decide)
     have h6 : f 6 = .int .i64 10 := hf 6 (by decide)
     obtain ⟨v14_7, h7, hu7⟩ := hf 7 (by decide)
     have HU14_7 := Lib.hid hu7
     clear hu7
     obtain ⟨v14_8, h8, hu8⟩ := hf 8 (by decide)
     have HU14_8 := Lib.hid hu8
     clear hu8
     have h9 : f 9 = .int .i64 10 := hf 9 (by decide)
     clear hf hap
     clear zsz z11 z14
     subst ha0
     simp only [slotsMbf14, putAll, h0, h1, h2, h3, h4, h5, h6, h7, h8, h9, Act.put, List.setIfInBounds_toArray, List.set_cons_zero, List.set_cons_succ]
     clear h0 h1 h2 h3 h4 h5 h6 h7 h8 h9
     refine tl_nil ?_
     replace HT := Lib.hid (HT.out.keep hS)
     replace HX_b5_8 := Lib.hid (HX_b5_8.out.keepB hS)
     replace HU13_1 := Lib.hid (HU13_1.out.keep hS)
     replace HB := Lib.hid (HB.out.trans (hS.mono HB.out.size))
     clear hS
     go_upto_region 15 with fail
     refine wp_act (fun a0 ha0 => ?_)
     have zsz : a0.tmps.size = 135 := by rw [ha0]; rfl
     have z17 : a0.eval (.tmp 17) = .int .i64 10 := by rw [ha0]; rfl
     refine wrO [] slotsMbf15 waitMbf15 [Fct.val Flz 0 (.int .i64 10), Fct.val Flz 1 (.bool true)] (fun w' => Below u14.heap.size u14 w') _ 2 0 chkMbf15 (by kernel_rfl) (by kernel_rfl) (by kernel_rfl) (by decide) (Below.refl _ _) ?_ ?_
     ·refine lt_s (lt_s (lt_0) ?_) ?_
      ·intro f w1 hS hf aA hA
       have r17 := pO 17 hA (by kernel_rfl) z17
       exact fV rfl rfl _ (ex_move (.tmp 17) rfl r17) hS uS
      ·intro f w1 hS hf aA hA
       have r87 := pA 87 0 hA sbMbf15 (by kernel_rfl) zsz rfl (hf 0 (by decide))
       exact fV rfl rfl _ (Eq.trans (ex_int .neq _ _ (.tmp 87) _ rfl .i64 10 0 r87 rfl (.bool ((10 : Int) != (0 : Int))) (fun _ => rfl)) (by rw [(by decide : ((10 : Int) != (0 : Int)) = true)])) hS uS
     intro f u15 hS hf hap
     have h0 : f 0 = .int .i64 10 := hf 0 (by decide)
     have h1 : f 1 = .bool true := hf 1 (by decide)
     clear hf hap
     clear zsz z17
     subst ha0
     simp only [slotsMbf15, putAll, h0, h1, Act.put, List.setIfInBounds_toArray, List.set_cons_zero, List.set_cons_succ]
     clear h0 h1
     refine tl_nil ?_
     replace HT := Lib.hid (HT.out.keep hS)
     replace HX_b5_8 := Lib.hid (HX_b5_8.out.keepB hS)
     replace HU13_1 := Lib.hid (HU13_1.out.keep hS)
     replace HU14_7 := Lib.hid (HU14_7.out.keep hS)
     replace HU14_8 := Lib.hid (HU14_8.out.keep hS)
     replace HB := Lib.hid (HB.out.trans (hS.mono HB.out.size))
     clear hS
     go_upto_region 16 with fail
     refine wp_act (fun a0 ha0 => ?_)
     have zsz : a0.tmps.size = 135 := by rw [ha0]; rfl
     have z17 : a0.eval (.tmp 17) = .int .i64 10 := by rw [ha0]; rfl
     have z15 : a0.eval (.tmp 15) = (fl v14_7 0) := by rw [ha0]; rfl
     have z16 : a0.eval (.tmp 16) = (fl v14_8 1) := by rw [ha0]; rfl
     refine wrO [] slotsMbf16 waitMbf16 [Fct.val Flz 0 (.int .i64 10), Fct.val Flz 1 (.bool true), Fct.val Flz 2 (.bool true), Fct.val Flz 3 ((fl v14_7 0)), Fct.val Flz 4 (.int .i64 0), Fct.val Flz 5 (.bool true), Fct.val Flz 6 (.bool true), Fct.val Flz 7 (.bool true), Fct.val Flz 8 ((fl v14_8 1)), Fct.val Flz 9 (.int .i64 0), Fct.val Flz 10 (.bool true), Fct.val Flz 11 (.bool true), Fct.val Flz 12 (.bool true)] (fun w' => Below u15.heap.size u15 w') _ 13 0 chkMbf16 (by kernel_rfl) (by kernel_rfl) (by kernel_rfl) (by decide) (Below.refl _ _) ?_ ?_
     ·refine lt_s (lt_s (lt_s (lt_s (lt_s (lt_s (lt_s (lt_s (lt_s (lt_s (lt_s (lt_s (lt_s (lt_0) ?_) ?_) ?_) ?_) ?_) ?_) ?_) ?_) ?_) ?_) ?_) ?_) ?_
      ·intro f w1 hS hf aA hA
       have r17 := pO 17 hA (by kernel_rfl) z17
       exact fV rfl rfl _ (ex_move (.tmp 17) rfl r17) hS uS
      ·intro f w1 hS hf aA hA
       have r89 := pA 89 0 hA sbMbf16 (by kernel_rfl) zsz rfl (hf 0 (by decide))
       exact fV rfl rfl _ (Eq.trans (ex_int .eql _ _ (.tmp 89) _ rfl .i64 10 10 r89 rfl (.bool ((10 : Int) == (10 : Int))) (fun _ => rfl)) (by rw [(by decide : ((10 : Int) == (10 : Int)) = true)])) hS uS
      ·intro f w1 hS hf aA hA
       have r90 := pA 90 1 hA sbMbf16 (by kernel_rfl) zsz rfl (hf 1 (by decide))
       exact fV rfl rfl _ (ex_move (.tmp 90) rfl r90) hS uS
      ·intro f w1 hS hf aA hA
       have t91 := pG 91 2 hA sbMbf16 (by kernel_rfl) zsz rfl (hf 2 (by decide))
       have r15 := pO 15 hA (by kernel_rfl) z15
       exact fV rfl ((wanted_of rfl 91 rfl t91).trans rfl) _ (ex_move (.tmp 15) rfl r15) hS uS
      ·intro f w1 hS hf aA hA
       have t91 := pG 91 2 hA sbMbf16 (by kernel_rfl) zsz rfl (hf 2 (by decide))
       have r92 := pA 92 3 hA sbMbf16 (by kernel_rfl) zsz rfl (hf 3 (by decide))
       obtain ⟨q9, c9, hv9, _⟩ := (HU14_7.out.p.keep hS)
       exact fV rfl ((wanted_of rfl 91 rfl t91).trans rfl) _ (Eq.trans (ex_len 24 42 (.tmp 92) rfl (by kernel_rfl) q9 (([] : List Su)).length c9 (r92.trans hv9)) (by rw [show (((([] : List Su)).length : Nat) : Int) = 0 from rfl])) hS uS
      ·intro f w1 hS hf aA hA
       have t91 := pG 91 2 hA sbMbf16 (by kernel_rfl) zsz rfl (hf 2 (by decide))
       have r93 := pA 93 4 hA sbMbf16 (by kernel_rfl) zsz rfl (hf 4 (by decide))
       exact fV rfl ((wanted_of rfl 91 rfl t91).trans rfl) _ (Eq.trans (ex_int .eql _ _ (.tmp 93) _ rfl .i64 0 0 r93 rfl (.bool ((0 : Int) == (0 : Int))) (fun _ => rfl)) (by rw [(by decide : ((0 : Int) == (0 : Int)) = true)])) hS uS
      ·intro f w1 hS hf aA hA
       have r91 := pA 91 2 hA sbMbf16 (by kernel_rfl) zsz rfl (hf 2 (by decide))
       have r94 := pA 94 5 hA sbMbf16 (by kernel_rfl) zsz rfl (hf 5 (by decide))
       exact fV rfl rfl (.bool true) (ex_pick (.tmp 91) (.tmp 94) _ rfl true r91 ((if_pos rfl).trans r94)) hS uS
      ·intro f w1 hS hf aA hA
       have r95 := pA 95 6 hA sbMbf16 (by kernel_rfl) zsz rfl (hf 6 (by decide))
       exact fV rfl rfl _ (ex_move (.tmp 95) rfl r95) hS uS
      ·intro f w1 hS hf aA hA
       have t96 := pG 96 7 hA sbMbf16 (by kernel_rfl) zsz rfl (hf 7 (by decide))
       have r16 := pO 16 hA (by kernel_rfl) z16
       exact fV rfl ((wanted_of rfl 96 rfl t96).trans rfl) _ (ex_move (.tmp 16) rfl r16) hS uS
      ·intro f w1 hS hf aA hA
       have t96 := pG 96 7 hA sbMbf16 (by kernel_rfl) zsz rfl (hf 7 (by decide))
       have r97 := pA 97 8 hA sbMbf16 (by kernel_rfl) zsz rfl (hf 8 (by decide))
       obtain ⟨q9, c9, hv9, _⟩ := (HU14_8.out.m.keep hS)
       exact fV rfl ((wanted_of rfl 96 rfl t96).trans rfl) _ (Eq.trans (ex_len 24 42 (.tmp 97) rfl (by kernel_rfl) q9 (([] : List Su)).length c9 (r97.trans hv9)) (by rw [show (((([] : List Su)).length : Nat) : Int) = 0 from rfl])) hS uS
      ·intro f w1 hS hf aA hA
       have t96 := pG 96 7 hA sbMbf16 (by kernel_rfl) zsz rfl (hf 7 (by decide))
       have r98 := pA 98 9 hA sbMbf16 (by kernel_rfl) zsz rfl (hf 9 (by decide))
       exact fV rfl ((wanted_of rfl 96 rfl t96).trans rfl) _ (Eq.trans (ex_int .eql _ _ (.tmp 98) _ rfl .i64 0 0 r98 rfl (.bool ((0 : Int) == (0 : Int))) (fun _ => rfl)) (by rw [(by decide : ((0 : Int) == (0 : Int)) = true)])) hS uS
      ·intro f w1 hS hf aA hA
       have r96 := pA 96 7 hA sbMbf16 (by kernel_rfl) zsz rfl (hf 7 (by decide))
       have r99 := pA 99 10 hA sbMbf16 (by kernel_rfl) zsz rfl (hf 10 (by decide))
       exact fV rfl rfl (.bool true) (ex_pick (.tmp 96) (.tmp 99) _ rfl true r96 ((if_pos rfl).trans r99)) hS uS
      ·intro f w1 hS hf aA hA
       have r100 := pA 100 11 hA sbMbf16 (by kernel_rfl) zsz rfl (hf 11 (by decide))
       exact fV rfl rfl _ (ex_assign (.tmp 100) rfl r100) hS uS
     intro f u16 hS hf hap
     have h0 : f 0 = .int .i64 10 := hf 0 (by decide)
     have h1 : f 1 = .bool true := hf 1 (by decide)
     have h2 : f 2 = .bool true := hf 2 (by decide)
     have h3 : f 3 = (fl v14_7 0) := hf 3 (by decide)
     have h4 : f 4 = .int .i64 0 := hf 4 (by decide)
     have h5 : f 5 = .bool true := hf 5 (by decide)
     have h6 : f 6 = .bool true := hf 6 (by decide)
     have h7 : f 7 = .bool true := hf 7 (by decide)
     have h8 : f 8 = (fl v14_8 1) := hf 8 (by decide)
     have h9 : f 9 = .int .i64 0 := hf 9 (by decide)
     have h10 : f 10 = .bool true := hf 10 (by decide)
     have h11 : f 11 = .bool true := hf 11 (by decide)
     have h12 : f 12 = .bool true := hf 12 (by decide)
     clear hf hap
     clear zsz z17 z15 z16
     subst ha0
     simp only [slotsMbf16, putAll, h0, h1, h2, h3, h4, h5, h6, h7, h8, h9, h10, h11, h12, Act.put, List.setIfInBounds_toArray, List.set_cons_zero, List.set_cons_succ]
     clear h0 h1 h2 h3 h4 h5 h6 h7 h8 h9 h10 h11 h12
     refine tl_nil ?_
     replace HT := Lib.hid (HT.out.keep hS)
     replace HX_b5_8 := Lib.hid (HX_b5_8.out.keepB hS)
     replace HU13_1 := Lib.hid (HU13_1.out.keep hS)
     replace HU14_7 := Lib.hid (HU14_7.out.keep hS)
     replace HU14_8 := Lib.hid (HU14_8.out.keep hS)
     replace HB := Lib.hid (HB.out.trans (hS.mono HB.out.size))
     clear hS
     go_wp2_with fail
     go_ret
     exact ⟨rfl, HB.out⟩
    ·have HPA : Hid ((srt q.2.1).length ≤ 2000) := Lib.hid (by rw [← HQQ.out]; exact Nat.le_trans (len_srt_le _) (Nat.le_trans plus_le (by decide)))
     have HPB : Hid ((srt q.2.2).length ≤ 2000) := Lib.hid (by rw [← HQQ.out]; exact Nat.le_trans (len_srt_le _) (Nat.le_trans minus_le (by decide)))
     have HMU : Hid ((minU (srt ((lb).map fewS)) (srt q.2.2)).length ≤ 1000) := Lib.hid (Nat.le_trans (len_minU _ _) (len_few _ 1000 (Nat.le_trans HLB.out (by decide))))
     have HEU : Hid ((eitU (minU (srt ((lb).map fewS)) (srt q.2.2)) (srt q.2.1)).length ≤ 10000) := Lib.hid (Nat.le_trans (len_eitU _ _) (by have := HMU.out; have := HPA.out; omega))
     obtain ⟨_, hk1, hk2⟩ := ownB_partsM HOK.out
     have HB1 : Hid ((((botU (srt q.2.1) (srt ((lb).map fewS))).length : Nat) : Int) = 0) := Lib.hid (by rw [hk2]; rfl)
     have HB2 : Hid ((((minU (srt q.2.2) (srt ((lb).map fewS))).length : Nat) : Int) = 0) := Lib.hid (by rw [hk1]; rfl)
     have HTU : Hid (tabP s m (eitU (minU (srt ((lb).map fewS)) (srt q.2.2)) (srt q.2.1)) = T) := Lib.hid (by
      have h9 := own_makes (s := s) HTO.out (asc_few lb) (by rw [HQQ.out]; exact HOK.out)
      rw [HQQ.out, HTL.out] at h9; exact h9)
     have HTUM : Hid ((tabP s m (eitU (minU (srt ((lb).map fewS)) (srt q.2.2)) (srt q.2.1))).length ≤ 100000) := Lib.hid (by rw [HTU.out]; exact HTM.out)
     clear hk1 hk2
     go_upto_region 14 with fail
     refine wp_act (fun a0 ha0 => ?_)
     have zsz : a0.tmps.size = 135 := by rw [ha0]; rfl
     have z11 : a0.eval (.tmp 11) = .pointer (some ⟨b5_8, 0, none⟩) := by rw [ha0]; rfl
     have z14 : a0.eval (.tmp 14) = v13_1 := by rw [ha0]; rfl
     refine wrO [] slotsMbf14 waitMbf14 [Fct.val Flz 0 (.agg #[.int .u64 (s : Int), v5_6]), Fct.val Flz 1 (v13_1), Fct.obj 2 (fun v w => ∃ zz, v = .tuple #[(fl zz 0), (fl zz 1), .int .i64 0] ∧ OwnR (srt q.2.1) (srt q.2.2) w zz) (fun _ _ _ ⟨zz, a, b⟩ he => ⟨zz, a, b.flz he⟩), Fct.obj 3 (fun v w => ∃ zz, v = .tuple #[(fl zz 0), (fl zz 1), .int .i64 0] ∧ OwnR (srt q.2.1) (srt q.2.2) w zz) (fun _ _ _ ⟨zz, a, b⟩ he => ⟨zz, a, b.flz he⟩), Fct.obj 4 (fun v w => ∃ zz, v = (fl zz 0) ∧ OwnR (srt q.2.1) (srt q.2.2) w zz) (fun _ _ _ ⟨zz, a, b⟩ he => ⟨zz, a, b.flz he⟩), Fct.obj 5 (fun v w => ∃ zz, v = (fl zz 1) ∧ OwnR (srt q.2.1) (srt q.2.2) w zz) (fun _ _ _ ⟨zz, a, b⟩ he => ⟨zz, a, b.flz he⟩), Fct.val Flz 6 (.int .i64 0), Fct.obj 7 (fun v w => ∃ zz, v = (fl zz 0) ∧ OwnR (srt q.2.1) (srt q.2.2) w zz) (fun _ _ _ ⟨zz, a, b⟩ he => ⟨zz, a, b.flz he⟩), Fct.obj 8 (fun v w => ∃ zz, v = (fl zz 1) ∧ OwnR (srt q.2.1) (srt q.2.2) w zz) (fun _ _ _ ⟨zz, a, b⟩ he => ⟨zz, a, b.flz he⟩), Fct.val Flz 9 (.int .i64 0)] (fun w' => Below u13.heap.size u13 w') _ 10 0 chkMbf14 (by kernel_rfl) (by kernel_rfl) (by kernel_rfl) (by decide) (Below.refl _ _) ?_ ?_
     ·refine lt_s (lt_s (lt_s (lt_s (lt_s (lt_s (lt_s (lt_s (lt_s (lt_s (lt_0) ?_) ?_) ?_) ?_) ?_) ?_) ?_) ?_) ?_) ?_
      ·intro f w1 hS hf aA hA
       have r11 := pO 11 hA (by kernel_rfl) z11
       exact fV rfl rfl _ (ex_loadR 28 (.tmp 11) rfl ⟨b5_8, 0, none⟩ r11 (fun _ => by kernel_rfl) [.int .u64 (s : Int), v5_6] (by kernel_rfl) ((HX_b5_8.out.keepB hS).part [.int .u64 (s : Int), v5_6] 0 (fun j u hu => by rw [Nat.zero_add]; exact hu))) hS uS
      ·intro f w1 hS hf aA hA
       have r14 := pO 14 hA (by kernel_rfl) z14
       exact fV rfl rfl _ (ex_move (.tmp 14) rfl r14) hS uS
      ·intro f w1 hS hf aA hA
       have r81 := pA 81 0 hA sbMbf14 (by kernel_rfl) zsz rfl (hf 0 (by decide))
       have r82 := pA 82 1 hA sbMbf14 (by kernel_rfl) zsz rfl (hf 1 (by decide))
       exact fC rfl rfl 13 #[(.tmp 81), (.tmp 82)] _ rfl #[.agg #[.int .u64 (s : Int), v5_6], v13_1] (mp2 r81 r82) (fun w => by kernel_rfl) _ (ownR_t (srt q.2.1) (srt q.2.2) s _ (T) _ (srt ((lb).map fewS)) q HQQ.out HOK.out rfl rfl w1 HSD.out (HL.out.keep (HB.out.trans (hS.mono HB.out.size)) HSZ.out) (Nat.le_trans HTM.out (by decide)) (len_few _ 1000 (Nat.le_trans HLB.out (by decide))) (HT.out.keep hS).cs (HU13_1.out.keep hS) HGT.out (good_few _ (Nat.le_trans HLB.out (by decide)))) hS (fun _ _ ⟨zz, a, b⟩ => ⟨zz, uS.trans a, b⟩)
      ·intro f w1 hS hf aA hA
       obtain ⟨x83, hx83, hr83⟩ := hf 2 (by decide)
       have e83 := pA 83 2 hA sbMbf14 (by kernel_rfl) zsz rfl hx83
       exact flw_val rfl rfl (.tuple #[(fl x83 0), (fl x83 1), .int .i64 0]) (ex_move (.tmp 83) rfl e83) hS (Flz.refl _) ⟨x83, uS, hr83⟩
      ·intro f w1 hS hf aA hA
       obtain ⟨x80, hx80, hr80⟩ := hf 3 (by decide)
       have e80 := pA 80 3 hA sbMbf14 (by kernel_rfl) zsz rfl hx80
       exact flw_val rfl rfl ((fl x80 0)) (ex_extract (.tmp 80) 0 rfl e80 rfl) hS (Flz.refl _) ⟨x80, uS, hr80⟩
      ·intro f w1 hS hf aA hA
       obtain ⟨x80, hx80, hr80⟩ := hf 3 (by decide)
       have e80 := pA 80 3 hA sbMbf14 (by kernel_rfl) zsz rfl hx80
       exact flw_val rfl rfl ((fl x80 1)) (ex_extract (.tmp 80) 1 rfl e80 rfl) hS (Flz.refl _) ⟨x80, uS, hr80⟩
      ·intro f w1 hS hf aA hA
       obtain ⟨x80, hx80, hr80⟩ := hf 3 (by decide)
       have e80 := pA 80 3 hA sbMbf14 (by kernel_rfl) zsz rfl hx80
       exact fV rfl rfl _ (ex_extract (.tmp 80) 2 rfl e80 rfl) hS uS
      ·intro f w1 hS hf aA hA
       obtain ⟨x84, hx84, hr84⟩ := hf 4 (by decide)
       have e84 := pA 84 4 hA sbMbf14 (by kernel_rfl) zsz rfl hx84
       exact flw_val rfl rfl ((fl x84 0)) (ex_assign (.tmp 84) rfl e84) hS (Flz.refl _) ⟨x84, uS, hr84⟩
      ·intro f w1 hS hf aA hA
       obtain ⟨x85, hx85, hr85⟩ := hf 5 (by decide)
       have e85 := pA 85 5 hA sbMbf14 (by kernel_rfl) zsz rfl hx85
       exact flw_val rfl rfl ((fl x85 1)) (ex_assign (.tmp 85) rfl e85) hS (Flz.refl _) ⟨x85, uS, hr85⟩
      ·intro f w1 hS hf aA hA
       have r86 := pA 86 6 hA sbMbf14 (by kernel_rfl) zsz rfl (hf 6 (by decide))
       exact fV rfl rfl _ (ex_assign (.tmp 86) rfl r86) hS uS
     intro f u14 hS hf hap
     have h0 : f 0 = .agg #[.int .u64 (s : Int), v5_6] := hf 0 (by decide)
     have h1 : f 1 = v13_1 := hf 1 (by decide)
     obtain ⟨v14_2, h2, -⟩ := hf 2 (by decide)
     obtain ⟨v14_3, h3, -⟩ := hf 3 (by decide)
     obtain ⟨v14_4, h4, -⟩ := hf 4 (by decide)
     obtain ⟨v14_5, h5, -⟩ := hf 5 (by decide)
     have h6 : f 6 = .int .i64 0 := hf 6 (by decide)
     obtain ⟨v14_7, h7, hu7⟩ := hf 7 (by decide)
     have HU14_7 := Lib.hid hu7
     clear hu7
     obtain ⟨v14_8, h8, hu8⟩ := hf 8 (by decide)
     have HU14_8 := Lib.hid hu8
     clear hu8
     have h9 : f 9 = .int .i64 0 := hf 9 (by decide)
     clear hf hap
     clear zsz z11 z14
     subst ha0
     simp only [slotsMbf14, putAll, h0, h1, h2, h3, h4, h5, h6, h7, h8, h9, Act.put, List.setIfInBounds_toArray, List.set_cons_zero, List.set_cons_succ]
     clear h0 h1 h2 h3 h4 h5 h6 h7 h8 h9
     refine tl_nil ?_
     replace HT := Lib.hid (HT.out.keep hS)
     replace HX_b5_8 := Lib.hid (HX_b5_8.out.keepB hS)
     replace HU13_1 := Lib.hid (HU13_1.out.keep hS)
     replace HB := Lib.hid (HB.out.trans (hS.mono HB.out.size))
     clear hS
     go_upto_region 15 with fail
     refine wp_act (fun a0 ha0 => ?_)
     have zsz : a0.tmps.size = 135 := by rw [ha0]; rfl
     have z17 : a0.eval (.tmp 17) = .int .i64 0 := by rw [ha0]; rfl
     refine wrO [] slotsMbf15 waitMbf15 [Fct.val Flz 0 (.int .i64 0), Fct.val Flz 1 (.bool false)] (fun w' => Below u14.heap.size u14 w') _ 2 0 chkMbf15 (by kernel_rfl) (by kernel_rfl) (by kernel_rfl) (by decide) (Below.refl _ _) ?_ ?_
     ·refine lt_s (lt_s (lt_0) ?_) ?_
      ·intro f w1 hS hf aA hA
       have r17 := pO 17 hA (by kernel_rfl) z17
       exact fV rfl rfl _ (ex_move (.tmp 17) rfl r17) hS uS
      ·intro f w1 hS hf aA hA
       have r87 := pA 87 0 hA sbMbf15 (by kernel_rfl) zsz rfl (hf 0 (by decide))
       exact fV rfl rfl _ (Eq.trans (ex_int .neq _ _ (.tmp 87) _ rfl .i64 0 0 r87 rfl (.bool ((0 : Int) != (0 : Int))) (fun _ => rfl)) (by rw [(by decide : ((0 : Int) != (0 : Int)) = false)])) hS uS
     intro f u15 hS hf hap
     have h0 : f 0 = .int .i64 0 := hf 0 (by decide)
     have h1 : f 1 = .bool false := hf 1 (by decide)
     clear hf hap
     clear zsz z17
     subst ha0
     simp only [slotsMbf15, putAll, h0, h1, Act.put, List.setIfInBounds_toArray, List.set_cons_zero, List.set_cons_succ]
     clear h0 h1
     refine tl_nil ?_
     replace HT := Lib.hid (HT.out.keep hS)
     replace HX_b5_8 := Lib.hid (HX_b5_8.out.keepB hS)
     replace HU13_1 := Lib.hid (HU13_1.out.keep hS)
     replace HU14_7 := Lib.hid (HU14_7.out.keep hS)
     replace HU14_8 := Lib.hid (HU14_8.out.keep hS)
     replace HB := Lib.hid (HB.out.trans (hS.mono HB.out.size))
     clear hS
     go_upto_region 17 with fail
     refine wp_act (fun a0 ha0 => ?_)
     have zsz : a0.tmps.size = 135 := by rw [ha0]; rfl
     have z0 : a0.eval (.tmp 0) = .int .u64 (s : Int) := by rw [ha0]; rfl
     have z1 : a0.eval (.tmp 1) = .int .i64 n := by rw [ha0]; rfl
     have z14 : a0.eval (.tmp 14) = v13_1 := by rw [ha0]; rfl
     have z16 : a0.eval (.tmp 16) = (fl v14_8 1) := by rw [ha0]; rfl
     have z15 : a0.eval (.tmp 15) = (fl v14_7 0) := by rw [ha0]; rfl
     refine wrO [] slotsMbt17 waitMbt17 [Fct.val Flz 0 (.int .u64 (s : Int)), Fct.val Flz 1 (.int .i64 n), Fct.val Flz 2 (v13_1), Fct.val Flz 3 ((fl v14_8 1)), Fct.obj 4 (fun v w => Us w v (minU (srt ((lb).map fewS)) (srt q.2.2))) (fun _ _ _ h he => h.flz he), Fct.val Flz 5 ((fl v14_7 0)), Fct.obj 6 (fun v w => Us w v (eitU (minU (srt ((lb).map fewS)) (srt q.2.2)) (srt q.2.1))) (fun _ _ _ h he => h.flz he), Fct.obj 7 (fun v w => ∃ zz, v = .tuple #[.agg #[.int .u64 (s : Int), zz], .int .i64 0] ∧ Cs w zz (tabP s m (eitU (minU (srt ((lb).map fewS)) (srt q.2.2)) (srt q.2.1)))) (fun _ _ _ ⟨zz, a, b⟩ he => ⟨zz, a, b.flz he⟩), Fct.obj 8 (fun v w => ∃ zz, v = .tuple #[.agg #[.int .u64 (s : Int), zz], .int .i64 0] ∧ Cs w zz (tabP s m (eitU (minU (srt ((lb).map fewS)) (srt q.2.2)) (srt q.2.1)))) (fun _ _ _ ⟨zz, a, b⟩ he => ⟨zz, a, b.flz he⟩), Fct.obj 9 (fun v w => ∃ zz, v = .agg #[.int .u64 (s : Int), zz] ∧ Cs w zz (tabP s m (eitU (minU (srt ((lb).map fewS)) (srt q.2.2)) (srt q.2.1)))) (fun _ _ _ ⟨zz, a, b⟩ he => ⟨zz, a, b.flz he⟩), Fct.val Flz 10 (.int .i64 0), Fct.obj 11 (fun v w => ∃ g, v = .pointer (some ⟨g, 0, none⟩) ∧ u15.heap.size ≤ g ∧ Has w g 28 ([.int .u64 0, .slice none 0 0])) (fun _ _ _ ⟨g, a, b, c⟩ he => ⟨g, a, b, c.flz he (by decide)⟩)] (fun w' => Below u15.heap.size u15 w') _ 12 2 chkMbt17 (by kernel_rfl) (by kernel_rfl) (by kernel_rfl) (by decide) (Below.refl _ _) ?_ ?_
     ·refine lt_s (lt_s (lt_s (lt_s (lt_s (lt_s (lt_s (lt_s (lt_s (lt_s (lt_s (lt_s (lt_0) ?_) ?_) ?_) ?_) ?_) ?_) ?_) ?_) ?_) ?_) ?_) ?_
      ·intro f w1 hS hf aA hA
       have r0 := pO 0 hA (by kernel_rfl) z0
       exact fV rfl rfl _ (ex_move (.tmp 0) rfl r0) hS uS
      ·intro f w1 hS hf aA hA
       have r1 := pO 1 hA (by kernel_rfl) z1
       exact fV rfl rfl _ (ex_move (.tmp 1) rfl r1) hS uS
      ·intro f w1 hS hf aA hA
       have r14 := pO 14 hA (by kernel_rfl) z14
       exact fV rfl rfl _ (ex_move (.tmp 14) rfl r14) hS uS
      ·intro f w1 hS hf aA hA
       have r16 := pO 16 hA (by kernel_rfl) z16
       exact fV rfl rfl _ (ex_move (.tmp 16) rfl r16) hS uS
      ·intro f w1 hS hf aA hA
       have r104 := pA 104 2 hA sbMbt17 (by kernel_rfl) zsz rfl (hf 2 (by decide))
       have r105 := pA 105 3 hA sbMbt17 (by kernel_rfl) zsz rfl (hf 3 (by decide))
       exact flw_call rfl rfl 20 #[(.tmp 104), (.tmp 105)] _ rfl #[v13_1, (fl v14_8 1)] (mp2 r104 r105) (fun w => by kernel_rfl) (fun v w' => Us w' v (minU (srt ((lb).map fewS)) (srt q.2.2))) (us_minus (HU13_1.out.keep hS) (HU14_8.out.m.keep hS) (len_few _ 10000 (Nat.le_trans HLB.out (by decide))) (Nat.le_trans HPB.out (by decide))) (fun v w' hr hb => ⟨hS.trans (hb.mono hS.size), Flz.of hb, (show Us w' (updF f 4 v 4) (minU (srt ((lb).map fewS)) (srt q.2.2)) by rw [updF_self]; exact hr)⟩)
      ·intro f w1 hS hf aA hA
       have r15 := pO 15 hA (by kernel_rfl) z15
       exact fV rfl rfl _ (ex_move (.tmp 15) rfl r15) hS uS
      ·intro f w1 hS hf aA hA
       have hu4 : Us w1 (f 4) (minU (srt ((lb).map fewS)) (srt q.2.2)) := (hf 4 (by decide))
       have e106 := pA 106 4 hA sbMbt17 (by kernel_rfl) zsz rfl rfl
       have r107 := pA 107 5 hA sbMbt17 (by kernel_rfl) zsz rfl (hf 5 (by decide))
       exact flw_call rfl rfl 19 #[(.tmp 106), (.tmp 107)] _ rfl #[f 4, (fl v14_7 0)] (mp2 e106 r107) (fun w => by kernel_rfl) (fun v w' => Us w' v (eitU (minU (srt ((lb).map fewS)) (srt q.2.2)) (srt q.2.1))) (us_either hu4 (HU14_7.out.p.keep hS) (Nat.le_trans HMU.out (by decide)) (Nat.le_trans HPA.out (by decide))) (fun v w' hr hb => ⟨hS.trans (hb.mono hS.size), Flz.of hb, (show Us w' (updF f 6 v 6) (eitU (minU (srt ((lb).map fewS)) (srt q.2.2)) (srt q.2.1)) by rw [updF_self]; exact hr)⟩)
      ·intro f w1 hS hf aA hA
       have r102 := pA 102 0 hA sbMbt17 (by kernel_rfl) zsz rfl (hf 0 (by decide))
       have r103 := pA 103 1 hA sbMbt17 (by kernel_rfl) zsz rfl (hf 1 (by decide))
       have hu6 : Us w1 (f 6) (eitU (minU (srt ((lb).map fewS)) (srt q.2.2)) (srt q.2.1)) := (hf 6 (by decide))
       have e108 := pA 108 6 hA sbMbt17 (by kernel_rfl) zsz rfl rfl
       exact fC rfl rfl 11 #[(.tmp 102), (.tmp 103), (.tmp 108)] _ rfl #[.int .u64 (s : Int), .int .i64 n, f 6] (mp3 r102 r103 e108) (fun w => by kernel_rfl) _ (ofA_t s n m _ (eitU (minU (srt ((lb).map fewS)) (srt q.2.2)) (srt q.2.1)) HGD.out HM.out (asc_eitU _ _) w1 HSD.out (HL.out.keep (HB.out.trans (hS.mono HB.out.size)) HSZ.out) HEU.out hu6) hS (fun _ _ ⟨zz, a, b⟩ => ⟨zz, uS.trans a, b⟩)
      ·intro f w1 hS hf aA hA
       obtain ⟨x109, hx109, hr109⟩ := hf 7 (by decide)
       have e109 := pA 109 7 hA sbMbt17 (by kernel_rfl) zsz rfl hx109
       exact flw_val rfl rfl (.tuple #[.agg #[.int .u64 (s : Int), x109], .int .i64 0]) (ex_move (.tmp 109) rfl e109) hS (Flz.refl _) ⟨x109, uS, hr109⟩
      ·intro f w1 hS hf aA hA
       obtain ⟨x101, hx101, hr101⟩ := hf 8 (by decide)
       have e101 := pA 101 8 hA sbMbt17 (by kernel_rfl) zsz rfl hx101
       exact flw_val rfl rfl (.agg #[.int .u64 (s : Int), x101]) (ex_extract (.tmp 101) 0 rfl e101 rfl) hS (Flz.refl _) ⟨x101, uS, hr101⟩
      ·intro f w1 hS hf aA hA
       obtain ⟨x101, hx101, hr101⟩ := hf 8 (by decide)
       have e101 := pA 101 8 hA sbMbt17 (by kernel_rfl) zsz rfl hx101
       exact fV rfl rfl _ (ex_extract (.tmp 101) 1 rfl e101 rfl) hS uS
      ·intro f w1 hS hf aA hA
       exact flw_wp rfl rfl (fun K hK => wp_alloc_row 28 rfl (.agg #[.int .u64 0, .slice none 0 0]) (fun w => by kernel_rfl) (hK _ _ (hS.alloc hS.size _) (Flz.al _ _) ⟨_, uS, hS.size, Has.made' _ _ _ _ rfl⟩))
     intro f x17 hS hf hap
     have h0 : f 0 = .int .u64 (s : Int) := hf 0 (by decide)
     have h1 : f 1 = .int .i64 n := hf 1 (by decide)
     have h2 : f 2 = v13_1 := hf 2 (by decide)
     have h3 : f 3 = (fl v14_8 1) := hf 3 (by decide)
     obtain ⟨v17_4, h4, hu4⟩ : ∃ v, f 4 = v ∧ Us x17 v (minU (srt ((lb).map fewS)) (srt q.2.2)) := ⟨_, rfl, (hf 4 (by decide))⟩
     clear hu4
     have h5 : f 5 = (fl v14_7 0) := hf 5 (by decide)
     obtain ⟨v17_6, h6, hu6⟩ : ∃ v, f 6 = v ∧ Us x17 v (eitU (minU (srt ((lb).map fewS)) (srt q.2.2)) (srt q.2.1)) := ⟨_, rfl, (hf 6 (by decide))⟩
     clear hu6
     obtain ⟨v17_7, h7, -⟩ := hf 7 (by decide)
     obtain ⟨v17_8, h8, -⟩ := hf 8 (by decide)
     obtain ⟨v17_9, h9, hu9⟩ := hf 9 (by decide)
     have HU17_9 := Lib.hid hu9
     clear hu9
     have h10 : f 10 = .int .i64 0 := hf 10 (by decide)
     obtain ⟨b17_11, h11, hgb11, hhb11⟩ := hf 11 (by decide)
     clear hf hap
     clear zsz z0 z1 z14 z16 z15
     subst ha0
     simp only [slotsMbt17, putAll, h0, h1, h2, h3, h4, h5, h6, h7, h8, h9, h10, h11, Act.put, List.setIfInBounds_toArray, List.set_cons_zero, List.set_cons_succ]
     clear h0 h1 h2 h3 h4 h5 h6 h7 h8 h9 h10 h11
     refine tl_store rfl (by kernel_rfl) 28 (.tmp 18) (.tmp 110) rfl b17_11 ([.int .u64 (s : Int), v17_9]) _ rfl rfl _ hhb11 (by kernel_rfl) rfl (tb_ones _ HU17_9.out.one) ?_
     intro u17 hp11 hbl hot
     replace hS := hS.trans (hbl _ hgb11)
     replace HU17_9 := Lib.hid (HU17_9.out.hotb hhb11 ⟨_, _, _, rfl⟩ (by decide) (hbl 0 (Nat.zero_le _)).size hot)
     clear hbl hot hhb11
     try simp only [Act.put]
     refine tl_pure rfl (by kernel_rfl) (.int .i64 0) (ex_assign (.tmp 111) rfl rfl) ?_
     try simp only [Act.put, List.setIfInBounds_toArray, List.set_cons_zero, List.set_cons_succ]
     refine tl_nil ?_
     replace HT := Lib.hid (HT.out.keep hS)
     replace HX_b5_8 := Lib.hid (HX_b5_8.out.keepB hS)
     replace HU13_1 := Lib.hid (HU13_1.out.keep hS)
     replace HU14_7 := Lib.hid (HU14_7.out.keep hS)
     replace HU14_8 := Lib.hid (HU14_8.out.keep hS)
     have HBW := Lib.hid HB.out.size
     replace HB := Lib.hid (HB.out.trans (hS.mono HB.out.size))
     clear hS
     have HGb17_11 : Hid (w.heap.size ≤ b17_11) := Lib.hid (Nat.le_trans HBW.out hgb11)
     have HX_b17_11 : Hid (Has u17 b17_11 28 ([.int .u64 (s : Int), v17_9])) := Lib.hid hp11
     clear hp11 hgb11
     clear HBW
     go_upto_region 18 with fail
     have HST : Hid (Below u17.heap.size u17 u17.drew) := Lib.hid (Below.refl _ _).drew
     replace HT := Lib.hid (HT.out.keep HST.out)
     replace HX_b5_8 := Lib.hid (HX_b5_8.out.keepB HST.out)
     replace HU13_1 := Lib.hid (HU13_1.out.keep HST.out)
     replace HU14_7 := Lib.hid (HU14_7.out.keep HST.out)
     replace HU14_8 := Lib.hid (HU14_8.out.keep HST.out)
     replace HX_b17_11 := Lib.hid (HX_b17_11.out.keepB HST.out)
     replace HU17_9 := Lib.hid (HU17_9.out.keep HST.out)
     replace HB := Lib.hid (HB.out.trans (HST.out.mono HB.out.size))
     clear HST
     refine wp_act (fun a0 ha0 => ?_)
     have zsz : a0.tmps.size = 135 := by rw [ha0]; rfl
     have z19 : a0.eval (.tmp 19) = .int .i64 0 := by rw [ha0]; rfl
     have z18 : a0.eval (.tmp 18) = .pointer (some ⟨b17_11, 0, none⟩) := by rw [ha0]; rfl
     have z11 : a0.eval (.tmp 11) = .pointer (some ⟨b5_8, 0, none⟩) := by rw [ha0]; rfl
     have z16 : a0.eval (.tmp 16) = (fl v14_8 1) := by rw [ha0]; rfl
     have z14 : a0.eval (.tmp 14) = v13_1 := by rw [ha0]; rfl
     have z15 : a0.eval (.tmp 15) = (fl v14_7 0) := by rw [ha0]; rfl
     refine wrD [] slotsMbt18 waitMbt18 [Fct.val Flz 0 (.int .i64 0), Fct.val Flz 1 (.bool true), Fct.val Flz 2 (.bool true), Fct.val Flz 3 (.agg #[.int .u64 (s : Int), v17_9]), Fct.obj 4 (fun v w => ∃ zz, v = .agg #[.int .u64 (s : Int), zz] ∧ Cs w zz (tabP s m (eitU (minU (srt ((lb).map fewS)) (srt q.2.2)) (srt q.2.1)))) (fun _ _ _ ⟨zz, a, b⟩ he => ⟨zz, a, b.flz he⟩), Fct.val Flz 5 (.agg #[.int .u64 (s : Int), v5_6]), Fct.obj 6 (fun v w => ∃ zz, v = .agg #[.int .u64 (s : Int), zz] ∧ Cs w zz (T)) (fun _ _ _ ⟨zz, a, b⟩ he => ⟨zz, a, b.flz he⟩), Fct.val Flz 7 (.bool true), Fct.val Flz 8 (.bool true), Fct.val Flz 9 (.bool true), Fct.val Flz 10 ((fl v14_8 1)), Fct.val Flz 11 (v13_1), Fct.obj 12 (fun v w => Us w v (minU (srt q.2.2) (srt ((lb).map fewS)))) (fun _ _ _ h he => h.flz he), Fct.val Flz 13 (.int .i64 0), Fct.val Flz 14 (.bool true), Fct.val Flz 15 (.bool true), Fct.val Flz 16 (.bool true), Fct.val Flz 17 ((fl v14_7 0)), Fct.val Flz 18 (v13_1), Fct.obj 19 (fun v w => Us w v (botU (srt q.2.1) (srt ((lb).map fewS)))) (fun _ _ _ h he => h.flz he), Fct.val Flz 20 (.int .i64 0), Fct.val Flz 21 (.bool true), Fct.val Flz 22 (.bool true), Fct.val Flz 23 (.bool true)] (fun w' => Below u17.drew.heap.size u17.drew w') _ 24 0 chkMbt18 (by kernel_rfl) (by kernel_rfl) (by kernel_rfl) (by kernel_rfl) (by decide) (Below.refl _ _) ?_ ?_
     ·refine lt_s (lt_s (lt_s (lt_s (lt_s (lt_s (lt_s (lt_s (lt_s (lt_s (lt_s (lt_s (lt_s (lt_s (lt_s (lt_s (lt_s (lt_s (lt_s (lt_s (lt_s (lt_s (lt_s (lt_s (lt_0) ?_) ?_) ?_) ?_) ?_) ?_) ?_) ?_) ?_) ?_) ?_) ?_) ?_) ?_) ?_) ?_) ?_) ?_) ?_) ?_) ?_) ?_) ?_) ?_
      ·intro f w1 hS hf aA hA
       have r19 := pO 19 hA (by kernel_rfl) z19
       exact fV rfl rfl _ (ex_move (.tmp 19) rfl r19) hS uS
      ·intro f w1 hS hf aA hA
       have r112 := pA 112 0 hA sbMbt18 (by kernel_rfl) zsz rfl (hf 0 (by decide))
       exact fV rfl rfl _ (Eq.trans (ex_int .eql _ _ (.tmp 112) _ rfl .i64 0 0 r112 rfl (.bool ((0 : Int) == (0 : Int))) (fun _ => rfl)) (by rw [(by decide : ((0 : Int) == (0 : Int)) = true)])) hS uS
      ·intro f w1 hS hf aA hA
       have r113 := pA 113 1 hA sbMbt18 (by kernel_rfl) zsz rfl (hf 1 (by decide))
       exact fV rfl rfl _ (ex_move (.tmp 113) rfl r113) hS uS
      ·intro f w1 hS hf aA hA
       have t114 := pG 114 2 hA sbMbt18 (by kernel_rfl) zsz rfl (hf 2 (by decide))
       have r18 := pO 18 hA (by kernel_rfl) z18
       exact fV rfl ((wanted_of rfl 114 rfl t114).trans rfl) _ (ex_loadR 28 (.tmp 18) rfl ⟨b17_11, 0, none⟩ r18 (fun _ => by kernel_rfl) [.int .u64 (s : Int), v17_9] (by kernel_rfl) ((HX_b17_11.out.keepB hS).part [.int .u64 (s : Int), v17_9] 0 (fun j u hu => by rw [Nat.zero_add]; exact hu))) hS uS
      ·intro f w1 hS hf aA hA
       have t114 := pG 114 2 hA sbMbt18 (by kernel_rfl) zsz rfl (hf 2 (by decide))
       have r115 := pA 115 3 hA sbMbt18 (by kernel_rfl) zsz rfl (hf 3 (by decide))
       exact fC rfl ((wanted_of rfl 114 rfl t114).trans rfl) 18 #[(.tmp 115)] _ rfl #[.agg #[.int .u64 (s : Int), v17_9]] (mp1 r115) (fun w => by kernel_rfl) _ (tableOf_any s _ _ w1 HTUM.out (HU17_9.out.keep hS)) hS (fun _ _ ⟨zz, a, b⟩ => ⟨zz, uS.trans a, b⟩)
      ·intro f w1 hS hf aA hA
       have t114 := pG 114 2 hA sbMbt18 (by kernel_rfl) zsz rfl (hf 2 (by decide))
       have r11 := pO 11 hA (by kernel_rfl) z11
       exact fV rfl ((wanted_of rfl 114 rfl t114).trans rfl) _ (ex_loadR 28 (.tmp 11) rfl ⟨b5_8, 0, none⟩ r11 (fun _ => by kernel_rfl) [.int .u64 (s : Int), v5_6] (by kernel_rfl) ((HX_b5_8.out.keepB hS).part [.int .u64 (s : Int), v5_6] 0 (fun j u hu => by rw [Nat.zero_add]; exact hu))) hS uS
      ·intro f w1 hS hf aA hA
       have t114 := pG 114 2 hA sbMbt18 (by kernel_rfl) zsz rfl (hf 2 (by decide))
       have r117 := pA 117 5 hA sbMbt18 (by kernel_rfl) zsz rfl (hf 5 (by decide))
       exact fC rfl ((wanted_of rfl 114 rfl t114).trans rfl) 18 #[(.tmp 117)] _ rfl #[.agg #[.int .u64 (s : Int), v5_6]] (mp1 r117) (fun w => by kernel_rfl) _ (tableOf_any s _ _ w1 HTM.out (HT.out.keep hS).cs) hS (fun _ _ ⟨zz, a, b⟩ => ⟨zz, uS.trans a, b⟩)
      ·intro f w1 hS hf aA hA
       have t114 := pG 114 2 hA sbMbt18 (by kernel_rfl) zsz rfl (hf 2 (by decide))
       obtain ⟨x116, hx116, hr116⟩ := hf 4 (by decide)
       have e116 := pA 116 4 hA sbMbt18 (by kernel_rfl) zsz rfl hx116
       obtain ⟨x118, hx118, hr118⟩ := hf 6 (by decide)
       have e118 := pA 118 6 hA sbMbt18 (by kernel_rfl) zsz rfl hx118
       exact fC rfl ((wanted_of rfl 114 rfl t114).trans rfl) 17 #[(.tmp 116), (.tmp 118)] _ rfl #[.agg #[.int .u64 (s : Int), x116], .agg #[.int .u64 (s : Int), x118]] (mp2 e116 e118) (fun w => by kernel_rfl) _ (sameT_eq s _ (tabP s m (eitU (minU (srt ((lb).map fewS)) (srt q.2.2)) (srt q.2.1))) _ (T) HTU.out w1 HTUM.out hr116 hr118) hS (fun _ _ h => uS.trans h)
      ·intro f w1 hS hf aA hA
       have r114 := pA 114 2 hA sbMbt18 (by kernel_rfl) zsz rfl (hf 2 (by decide))
       have r119 := pA 119 7 hA sbMbt18 (by kernel_rfl) zsz rfl (hf 7 (by decide))
       exact fV rfl rfl (.bool true) (ex_pick (.tmp 114) (.tmp 119) _ rfl true r114 ((if_pos rfl).trans r119)) hS uS
      ·intro f w1 hS hf aA hA
       have r120 := pA 120 8 hA sbMbt18 (by kernel_rfl) zsz rfl (hf 8 (by decide))
       exact fV rfl rfl _ (ex_move (.tmp 120) rfl r120) hS uS
      ·intro f w1 hS hf aA hA
       have t121 := pG 121 9 hA sbMbt18 (by kernel_rfl) zsz rfl (hf 9 (by decide))
       have r16 := pO 16 hA (by kernel_rfl) z16
       exact fV rfl ((wanted_of rfl 121 rfl t121).trans rfl) _ (ex_move (.tmp 16) rfl r16) hS uS
      ·intro f w1 hS hf aA hA
       have t121 := pG 121 9 hA sbMbt18 (by kernel_rfl) zsz rfl (hf 9 (by decide))
       have r14 := pO 14 hA (by kernel_rfl) z14
       exact fV rfl ((wanted_of rfl 121 rfl t121).trans rfl) _ (ex_move (.tmp 14) rfl r14) hS uS
      ·intro f w1 hS hf aA hA
       have t121 := pG 121 9 hA sbMbt18 (by kernel_rfl) zsz rfl (hf 9 (by decide))
       have r122 := pA 122 10 hA sbMbt18 (by kernel_rfl) zsz rfl (hf 10 (by decide))
       have r123 := pA 123 11 hA sbMbt18 (by kernel_rfl) zsz rfl (hf 11 (by decide))
       exact flw_call rfl ((wanted_of rfl 121 rfl t121).trans rfl) 20 #[(.tmp 122), (.tmp 123)] _ rfl #[(fl v14_8 1), v13_1] (mp2 r122 r123) (fun w => by kernel_rfl) (fun v w' => Us w' v (minU (srt q.2.2) (srt ((lb).map fewS)))) (us_minus (HU14_8.out.m.keep hS) (HU13_1.out.keep hS) (Nat.le_trans HPB.out (by decide)) (len_few _ 10000 (Nat.le_trans HLB.out (by decide)))) (fun v w' hr hb => ⟨hS.trans (hb.mono hS.size), Flz.of hb, (show Us w' (updF f 12 v 12) (minU (srt q.2.2) (srt ((lb).map fewS))) by rw [updF_self]; exact hr)⟩)
      ·intro f w1 hS hf aA hA
       have t121 := pG 121 9 hA sbMbt18 (by kernel_rfl) zsz rfl (hf 9 (by decide))
       have hu12 : Us w1 (f 12) (minU (srt q.2.2) (srt ((lb).map fewS))) := (hf 12 (by decide))
       have e124 := pA 124 12 hA sbMbt18 (by kernel_rfl) zsz rfl rfl
       obtain ⟨q9, c9, hv9, _⟩ := hu12
       exact fV rfl ((wanted_of rfl 121 rfl t121).trans rfl) _ (Eq.trans (ex_len 24 42 (.tmp 124) rfl (by kernel_rfl) q9 (minU (srt q.2.2) (srt ((lb).map fewS))).length c9 (e124.trans hv9)) (by rw [show (((minU (srt q.2.2) (srt ((lb).map fewS))).length : Nat) : Int) = 0 from HB2.out])) hS uS
      ·intro f w1 hS hf aA hA
       have t121 := pG 121 9 hA sbMbt18 (by kernel_rfl) zsz rfl (hf 9 (by decide))
       have r125 := pA 125 13 hA sbMbt18 (by kernel_rfl) zsz rfl (hf 13 (by decide))
       exact fV rfl ((wanted_of rfl 121 rfl t121).trans rfl) _ (Eq.trans (ex_int .eql _ _ (.tmp 125) _ rfl .i64 0 0 r125 rfl (.bool ((0 : Int) == (0 : Int))) (fun _ => rfl)) (by rw [(by decide : ((0 : Int) == (0 : Int)) = true)])) hS uS
      ·intro f w1 hS hf aA hA
       have r121 := pA 121 9 hA sbMbt18 (by kernel_rfl) zsz rfl (hf 9 (by decide))
       have r126 := pA 126 14 hA sbMbt18 (by kernel_rfl) zsz rfl (hf 14 (by decide))
       exact fV rfl rfl (.bool true) (ex_pick (.tmp 121) (.tmp 126) _ rfl true r121 ((if_pos rfl).trans r126)) hS uS
      ·intro f w1 hS hf aA hA
       have r127 := pA 127 15 hA sbMbt18 (by kernel_rfl) zsz rfl (hf 15 (by decide))
       exact fV rfl rfl _ (ex_move (.tmp 127) rfl r127) hS uS
      ·intro f w1 hS hf aA hA
       have t128 := pG 128 16 hA sbMbt18 (by kernel_rfl) zsz rfl (hf 16 (by decide))
       have r15 := pO 15 hA (by kernel_rfl) z15
       exact fV rfl ((wanted_of rfl 128 rfl t128).trans rfl) _ (ex_move (.tmp 15) rfl r15) hS uS
      ·intro f w1 hS hf aA hA
       have t128 := pG 128 16 hA sbMbt18 (by kernel_rfl) zsz rfl (hf 16 (by decide))
       have r14 := pO 14 hA (by kernel_rfl) z14
       exact fV rfl ((wanted_of rfl 128 rfl t128).trans rfl) _ (ex_move (.tmp 14) rfl r14) hS uS
      ·intro f w1 hS hf aA hA
       have t128 := pG 128 16 hA sbMbt18 (by kernel_rfl) zsz rfl (hf 16 (by decide))
       have r129 := pA 129 17 hA sbMbt18 (by kernel_rfl) zsz rfl (hf 17 (by decide))
       have r130 := pA 130 18 hA sbMbt18 (by kernel_rfl) zsz rfl (hf 18 (by decide))
       exact flw_call rfl ((wanted_of rfl 128 rfl t128).trans rfl) 21 #[(.tmp 129), (.tmp 130)] _ rfl #[(fl v14_7 0), v13_1] (mp2 r129 r130) (fun w => by kernel_rfl) (fun v w' => Us w' v (botU (srt q.2.1) (srt ((lb).map fewS)))) (us_both (HU14_7.out.p.keep hS) (HU13_1.out.keep hS) (Nat.le_trans HPA.out (by decide)) (len_few _ 10000 (Nat.le_trans HLB.out (by decide)))) (fun v w' hr hb => ⟨hS.trans (hb.mono hS.size), Flz.of hb, (show Us w' (updF f 19 v 19) (botU (srt q.2.1) (srt ((lb).map fewS))) by rw [updF_self]; exact hr)⟩)
      ·intro f w1 hS hf aA hA
       have t128 := pG 128 16 hA sbMbt18 (by kernel_rfl) zsz rfl (hf 16 (by decide))
       have hu19 : Us w1 (f 19) (botU (srt q.2.1) (srt ((lb).map fewS))) := (hf 19 (by decide))
       have e131 := pA 131 19 hA sbMbt18 (by kernel_rfl) zsz rfl rfl
       obtain ⟨q9, c9, hv9, _⟩ := hu19
       exact fV rfl ((wanted_of rfl 128 rfl t128).trans rfl) _ (Eq.trans (ex_len 24 42 (.tmp 131) rfl (by kernel_rfl) q9 (botU (srt q.2.1) (srt ((lb).map fewS))).length c9 (e131.trans hv9)) (by rw [show (((botU (srt q.2.1) (srt ((lb).map fewS))).length : Nat) : Int) = 0 from HB1.out])) hS uS
      ·intro f w1 hS hf aA hA
       have t128 := pG 128 16 hA sbMbt18 (by kernel_rfl) zsz rfl (hf 16 (by decide))
       have r132 := pA 132 20 hA sbMbt18 (by kernel_rfl) zsz rfl (hf 20 (by decide))
       exact fV rfl ((wanted_of rfl 128 rfl t128).trans rfl) _ (Eq.trans (ex_int .eql _ _ (.tmp 132) _ rfl .i64 0 0 r132 rfl (.bool ((0 : Int) == (0 : Int))) (fun _ => rfl)) (by rw [(by decide : ((0 : Int) == (0 : Int)) = true)])) hS uS
      ·intro f w1 hS hf aA hA
       have r128 := pA 128 16 hA sbMbt18 (by kernel_rfl) zsz rfl (hf 16 (by decide))
       have r133 := pA 133 21 hA sbMbt18 (by kernel_rfl) zsz rfl (hf 21 (by decide))
       exact fV rfl rfl (.bool true) (ex_pick (.tmp 128) (.tmp 133) _ rfl true r128 ((if_pos rfl).trans r133)) hS uS
      ·intro f w1 hS hf aA hA
       have r134 := pA 134 22 hA sbMbt18 (by kernel_rfl) zsz rfl (hf 22 (by decide))
       exact fV rfl rfl _ (ex_assign (.tmp 134) rfl r134) hS uS
     intro f u18 hS hf hap
     have h0 : f 0 = .int .i64 0 := hf 0 (by decide)
     have h1 : f 1 = .bool true := hf 1 (by decide)
     have h2 : f 2 = .bool true := hf 2 (by decide)
     have h3 : f 3 = .agg #[.int .u64 (s : Int), v17_9] := hf 3 (by decide)
     obtain ⟨v18_4, h4, hu4⟩ := hf 4 (by decide)
     have HU18_4 := Lib.hid hu4
     clear hu4
     have h5 : f 5 = .agg #[.int .u64 (s : Int), v5_6] := hf 5 (by decide)
     obtain ⟨v18_6, h6, hu6⟩ := hf 6 (by decide)
     have HU18_6 := Lib.hid hu6
     clear hu6
     have h7 : f 7 = .bool true := hf 7 (by decide)
     have h8 : f 8 = .bool true := hf 8 (by decide)
     have h9 : f 9 = .bool true := hf 9 (by decide)
     have h10 : f 10 = (fl v14_8 1) := hf 10 (by decide)
     have h11 : f 11 = v13_1 := hf 11 (by decide)
     obtain ⟨v18_12, h12, hu12⟩ : ∃ v, f 12 = v ∧ Us u18 v (minU (srt q.2.2) (srt ((lb).map fewS))) := ⟨_, rfl, (hf 12 (by decide))⟩
     have HU18_12 := Lib.hid hu12
     clear hu12
     have h13 : f 13 = .int .i64 0 := hf 13 (by decide)
     have h14 : f 14 = .bool true := hf 14 (by decide)
     have h15 : f 15 = .bool true := hf 15 (by decide)
     have h16 : f 16 = .bool true := hf 16 (by decide)
     have h17 : f 17 = (fl v14_7 0) := hf 17 (by decide)
     have h18 : f 18 = v13_1 := hf 18 (by decide)
     obtain ⟨v18_19, h19, hu19⟩ : ∃ v, f 19 = v ∧ Us u18 v (botU (srt q.2.1) (srt ((lb).map fewS))) := ⟨_, rfl, (hf 19 (by decide))⟩
     have HU18_19 := Lib.hid hu19
     clear hu19
     have h20 : f 20 = .int .i64 0 := hf 20 (by decide)
     have h21 : f 21 = .bool true := hf 21 (by decide)
     have h22 : f 22 = .bool true := hf 22 (by decide)
     have h23 : f 23 = .bool true := hf 23 (by decide)
     clear hf hap
     clear zsz z19 z18 z11 z16 z14 z15
     subst ha0
     simp only [slotsMbt18, putAll, h0, h1, h2, h3, h4, h5, h6, h7, h8, h9, h10, h11, h12, h13, h14, h15, h16, h17, h18, h19, h20, h21, h22, h23, Act.put, List.setIfInBounds_toArray, List.set_cons_zero, List.set_cons_succ]
     clear h0 h1 h2 h3 h4 h5 h6 h7 h8 h9 h10 h11 h12 h13 h14 h15 h16 h17 h18 h19 h20 h21 h22 h23
     refine tl_nilN ?_
     replace HT := Lib.hid (HT.out.keep hS)
     replace HX_b5_8 := Lib.hid (HX_b5_8.out.keepB hS)
     replace HU13_1 := Lib.hid (HU13_1.out.keep hS)
     replace HU14_7 := Lib.hid (HU14_7.out.keep hS)
     replace HU14_8 := Lib.hid (HU14_8.out.keep hS)
     replace HX_b17_11 := Lib.hid (HX_b17_11.out.keepB hS)
     replace HU17_9 := Lib.hid (HU17_9.out.keep hS)
     replace HB := Lib.hid (HB.out.trans (hS.mono HB.out.size))
     clear hS
     go_wp2_with fail
     go_ret
     exact ⟨rfl, HB.out⟩
theorem peelMakes_law (s : Nat) (n : Int) (R : List Ce) (la lb : List Int) (qr qa qb : Option Addr) (cr ca cb : Nat) (w : World) (hs : s < 18446744073709551616) (hL : Laid w) (hr : Cs w (.slice qr R.length cr) R) (ho : ∀ x ∈ R, okC x) (ha : Sees w w.heap.size qa (la.map fun n => Value.int .i64 n)) (hb : Sees w w.heap.size qb (lb.map fun n => Value.int .i64 n)) : Calls Tryd.prog 4 #[.int .u64 (s : Int), .int .i64 n, .slice qr R.length cr, .slice qa la.length ca, .slice qb lb.length cb] w fun e w' => e = .returned (.bool true) ∧ Below w.heap.size w w' := peelMakes_b s n R la lb qr qa qb cr ca cb w w (Below.refl _ _) hs hL hr ho ha hb
end Go.Proofs.YtnkcehmgagpadaaDoor
