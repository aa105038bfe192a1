/- Contract: package table's Minus. Condition: at most 10^6 cells each. -/
import Derived.Test.YtepeloenijlnhaaDoorSq
import Derived.Test.YtepeloenijlnhaaDoorGp4
import Derived.Test.YtepeloenijlnhaaDoorGp7
namespace Go.Proofs.YtepeloenijlnhaaDoor
open Go.RowKit
def mixM (A B : List Ce) (k : Nat) : List Ce := List.zipWith minusC (A.take k) (B.take k) ++ A.drop k
theorem mixM_zero (A B : List Ce) : mixM A B 0 = A := by unfold mixM; simp
theorem mixM_len {A B : List Ce} (h : A.length = B.length) (k : Nat) (hk : k ≤ A.length) : (mixM A B k).length = A.length := by unfold mixM; simp; omega
theorem mixM_all {A B : List Ce} (h : A.length = B.length) : mixM A B B.length = List.zipWith minusC A B := by unfold mixM; rw [List.take_length, List.take_of_length_le (by omega), List.drop_of_length_le (by omega), List.append_nil]
theorem mixM_at {A B : List Ce} (h : A.length = B.length) (k : Nat) (hk : k < A.length) (hl : k < (mixM A B k).length) : (mixM A B k)[k] = A[k] := by
 have h1 : (List.zipWith minusC (A.take k) (B.take k)).length = k := by simp; omega
 have e : (mixM A B k)[k]? = A[k]? := by
  unfold mixM
  rw [List.getElem?_append_right (by omega), h1, Nat.sub_self, List.getElem?_drop, Nat.add_zero]
 rw [List.getElem?_eq_getElem hl, List.getElem?_eq_getElem hk] at e
 exact Option.some.inj e
theorem mixM_succ {A B : List Ce} (h : A.length = B.length) (k : Nat) (hk : k < A.length) : (mixM A B k).set k (minusC A[k] (B[k]'(by omega))) = mixM A B (k + 1) := by
 have h1 : (List.zipWith minusC (A.take k) (B.take k)).length = k := by simp; omega
 unfold mixM
 rw [List.set_append_right _ _ (by omega), h1, Nat.sub_self, List.drop_eq_getElem_cons hk, List.set_cons_zero]
 rw [List.take_succ_eq_append_getElem hk, List.take_succ_eq_append_getElem (show k < B.length by omega), List.zipWith_append (by simp; omega)]
 simp
theorem okM_of (s t : Nat) (A B : List Ce) (h1 : goodN A.length = true) (h2 : goodN B.length = true) (h3 : s = t) (h4 : A.length = B.length) : okM s t A B = true := by unfold okM; rw [h1, h2, decide_eq_true h3, decide_eq_true h4]; rfl
def waitTmia1 (i : Nat) : List Nat := ([[], [0], [1], [2], [3], [3], [3], [3, 6], [7], [8], [8], [8], [8], [8], [8, 13], [14], [15], [15], [15], [15], [15], [15], [15], [15, 22]] : List (List Nat)).getD i []
def slotsTmia1 : List (Nat × Nat) := [(8, 0), (9, 1), (10, 2), (11, 3), (12, 4), (13, 5), (14, 6), (15, 7), (16, 8), (17, 9), (18, 10), (19, 11), (20, 12), (21, 13), (22, 14), (23, 15), (24, 16), (25, 17), (26, 18), (27, 19), (28, 20), (29, 21), (30, 22), (31, 23)]
theorem sbTmia1 : slotsB slotsTmia1 = true := by kernel_rfl
theorem chkTmia1 : flwO slotsTmia1 waitTmia1 24 (regOf Tryd.f10.body 1) = true := by kernel_rfl
def waitTmia2 (i : Nat) : List Nat := ([[], [0], [0, 1]] : List (List Nat)).getD i []
def slotsTmia2 : List (Nat × Nat) := [(32, 0), (5, 2)]
theorem sbTmia2 : slotsB slotsTmia2 = true := by kernel_rfl
theorem chkTmia2 : flwO slotsTmia2 waitTmia2 1 (regOf Tryd.f10.body 2) = true := by kernel_rfl
def waitTmig1 (i : Nat) : List Nat := ([[], [0], [1], [2], [3], [3, 4], [3, 5], [3, 6], [7], [8], [8, 9], [8], [8, 11], [8, 10, 12], [8, 13], [14], [15], [15, 16], [15, 17], [15], [15, 19], [15, 20], [15, 18, 21], [15, 22]] : List (List Nat)).getD i []
def slotsTmig1 : List (Nat × Nat) := [(8, 0), (9, 1), (10, 2), (11, 3), (12, 4), (13, 5), (14, 6), (15, 7), (16, 8), (17, 9), (18, 10), (19, 11), (20, 12), (21, 13), (22, 14), (23, 15), (24, 16), (25, 17), (26, 18), (27, 19), (28, 20), (29, 21), (30, 22), (31, 23)]
theorem sbTmig1 : slotsB slotsTmig1 = true := by kernel_rfl
theorem chkTmig1 : flwO slotsTmig1 waitTmig1 24 (regOf Tryd.f10.body 1) = true := by kernel_rfl
def waitTmig3 (i : Nat) : List Nat := ([[], [0], [1], [], [0, 1, 2, 3]] : List (List Nat)).getD i []
def slotsTmig3 : List (Nat × Nat) := [(33, 0), (34, 1), (35, 2), (36, 3)]
theorem sbTmig3 : slotsB slotsTmig3 = true := by kernel_rfl
theorem chkTmig3 : flwO slotsTmig3 waitTmig3 4 (regOf Tryd.f10.body 3) = true := by kernel_rfl
def waitTmig4 (i : Nat) : List Nat := ([[], [0], [1], []] : List (List Nat)).getD i []
def slotsTmig4 : List (Nat × Nat) := [(37, 0), (38, 1), (39, 2), (40, 3)]
theorem sbTmig4 : slotsB slotsTmig4 = true := by kernel_rfl
theorem chkTmig4 : flwO slotsTmig4 waitTmig4 4 (regOf Tryd.f10.body 4) = true := by kernel_rfl
def waitTmil6 (i : Nat) : List Nat := ([[], [], [1], [], [0], [0, 1, 2, 3, 4]] : List (List Nat)).getD i []
def slotsTmil6 : List (Nat × Nat) := [(42, 0), (43, 1), (44, 2), (7, 3), (6, 4)]
theorem sbTmil6 : slotsB slotsTmil6 = true := by kernel_rfl
theorem chkTmil6 : flwO slotsTmil6 waitTmil6 5 (regOf Tryd.f10.body 6) = true := by kernel_rfl
def waitTmil7 (i : Nat) : List Nat := ([[], [0], [], [], [3], [], [4, 5], [6], [], [7, 8], [1, 2], [0, 1, 2, 3, 4, 5, 6, 7, 8, 9, 10]] : List (List Nat)).getD i []
def slotsTmil7 : List (Nat × Nat) := [(45, 0), (46, 1), (47, 2), (48, 3), (49, 4), (50, 5), (51, 6), (52, 7), (53, 8), (54, 9), (55, 10)]
theorem sbTmil7 : slotsB slotsTmil7 = true := by kernel_rfl
theorem chkTmil7 : flwB slotsTmil7 waitTmil7 11 (regOf Tryd.f10.body 7) = true := by kernel_rfl
def waitTmie9 (i : Nat) : List Nat := ([[], [0], [0, 1]] : List (List Nat)).getD i []
def slotsTmie9 : List (Nat × Nat) := [(57, 0), (5, 2)]
theorem sbTmie9 : slotsB slotsTmie9 = true := by kernel_rfl
theorem chkTmie9 : flwO slotsTmie9 waitTmie9 1 (regOf Tryd.f10.body 9) = true := by kernel_rfl
set_option maxHeartbeats 16000000 in
set_option maxRecDepth 100000 in
theorem minusT_b (s : Nat) (u : Value) (A : List Ce) (t : Nat) (v : Value) (B : List Ce) (w w0 : World) (hB : Below w.heap.size w w0) (hst : s = t) (hq : A.length = B.length) (hM : A.length ≤ 1000000) (hA : Cs w u A) (hV : Cs w v B) : Calls Tryd.prog 10 #[.agg #[.int .u64 (s : Int), u], .agg #[.int .u64 (t : Int), v]] w0 fun e w' => (∃ v, e = .returned v ∧ ∃ x, v = .tuple #[.agg #[.int .u64 ((minusT s A t B).1 : Int), x], .int .i64 (minusT s A t B).2.2] ∧ Cs w' x (minusT s A t B).2.1) ∧ Below w.heap.size w w' := by
 have HOF : Hid (minusT s A t B = if okM s t A B = true then (s, List.zipWith minusC A B, 0) else (0, [], 1)) := Lib.hid rfl
 go_enter Tryd.func10, Tryd.ntmps10
 have HB := Lib.hid hB
 clear hB
 have HA := Lib.hid hA
 have HV := Lib.hid hV
 clear hA hV
 go_upto_region 0 with fail
 refine wp_region_lit ?_
 try simp only [Act.put, List.setIfInBounds_toArray, List.set_cons_zero, List.set_cons_succ]
 refine lp_step rfl (fun K hK => wp_box_row 26 (.tmp 0) rfl (.agg #[.int .u64 (s : Int), u]) rfl (hK _ _ ?_))
 try simp only [Act.put, List.setIfInBounds_toArray, List.set_cons_zero, List.set_cons_succ]
 show wpList _ _ _ _ _ (w0.alloc (.cells (([.int .u64 (s : Int), u] : List Value)).toArray 26))
 have HST : Hid (Below w0.heap.size w0 (w0.alloc (.cells (([.int .u64 (s : Int), u] : List Value)).toArray 26))) := Lib.hid ((Below.refl _ _).alloc (Nat.le_refl _) _)
 have HX1 : Hid (Has (w0.alloc (.cells (([.int .u64 (s : Int), u] : List Value)).toArray 26)) w0.heap.size 26 ([.int .u64 (s : Int), u])) := Lib.hid (Has.made' _ _ _ _ rfl)
 have HGg1 : Hid (w.heap.size ≤ w0.heap.size) := Lib.hid HB.out.size
 replace HB := Lib.hid (HB.out.trans (HST.out.mono HB.out.size))
 clear HST
 generalize w0.alloc (.cells (([.int .u64 (s : Int), u] : List Value)).toArray 26) = w1 at *
 generalize w0.heap.size = g1 at *
 refine lp_step rfl (fun K hK => wp_box_row 26 (.tmp 1) rfl (.agg #[.int .u64 (t : Int), v]) rfl (hK _ _ ?_))
 try simp only [Act.put, List.setIfInBounds_toArray, List.set_cons_zero, List.set_cons_succ]
 show wpList _ _ _ _ _ (w1.alloc (.cells (([.int .u64 (t : Int), v] : List Value)).toArray 26))
 have HST : Hid (Below w1.heap.size w1 (w1.alloc (.cells (([.int .u64 (t : Int), v] : List Value)).toArray 26))) := Lib.hid ((Below.refl _ _).alloc (Nat.le_refl _) _)
 have HLT_g1_g2 : Hid (g1 < w1.heap.size) := Lib.hid HX1.out.lt
 have HNE_g1_g2 : Hid (g1 ≠ w1.heap.size) := Lib.hid (Nat.ne_of_lt HX1.out.lt)
 have HX2 : Hid (Has (w1.alloc (.cells (([.int .u64 (t : Int), v] : List Value)).toArray 26)) w1.heap.size 26 ([.int .u64 (t : Int), v])) := Lib.hid (Has.made' _ _ _ _ rfl)
 replace HX1 := Lib.hid (HX1.out.keepB HST.out)
 have HGg2 : Hid (w.heap.size ≤ w1.heap.size) := Lib.hid HB.out.size
 replace HB := Lib.hid (HB.out.trans (HST.out.mono HB.out.size))
 clear HST
 generalize w1.alloc (.cells (([.int .u64 (t : Int), v] : List Value)).toArray 26) = w2 at *
 generalize w1.heap.size = g2 at *
 refine lp_step rfl (fun K hK => wp_alloc_row 26 rfl (.agg #[.int .u64 0, .slice none 0 0]) (fun w => by kernel_rfl) (hK _ _ ?_))
 try simp only [Act.put, List.setIfInBounds_toArray, List.set_cons_zero, List.set_cons_succ]
 show wpList _ _ _ _ _ (w2.alloc (.cells (([.int .u64 0, .slice none 0 0] : List Value)).toArray 26))
 have HST : Hid (Below w2.heap.size w2 (w2.alloc (.cells (([.int .u64 0, .slice none 0 0] : List Value)).toArray 26))) := Lib.hid ((Below.refl _ _).alloc (Nat.le_refl _) _)
 have HLT_g1_g3 : Hid (g1 < w2.heap.size) := Lib.hid HX1.out.lt
 have HLT_g2_g3 : Hid (g2 < w2.heap.size) := Lib.hid HX2.out.lt
 have HNE_g1_g3 : Hid (g1 ≠ w2.heap.size) := Lib.hid (Nat.ne_of_lt HX1.out.lt)
 have HNE_g2_g3 : Hid (g2 ≠ w2.heap.size) := Lib.hid (Nat.ne_of_lt HX2.out.lt)
 have HX3 : Hid (Has (w2.alloc (.cells (([.int .u64 0, .slice none 0 0] : List Value)).toArray 26)) w2.heap.size 26 ([.int .u64 0, .slice none 0 0])) := Lib.hid (Has.made' _ _ _ _ rfl)
 replace HX1 := Lib.hid (HX1.out.keepB HST.out)
 replace HX2 := Lib.hid (HX2.out.keepB HST.out)
 have HGg3 : Hid (w.heap.size ≤ w2.heap.size) := Lib.hid HB.out.size
 replace HB := Lib.hid (HB.out.trans (HST.out.mono HB.out.size))
 clear HST
 generalize w2.alloc (.cells (([.int .u64 0, .slice none 0 0] : List Value)).toArray 26) = w3 at *
 generalize w2.heap.size = g3 at *
 refine lp_pure (v := .int .i64 0) rfl (ex_assign _ rfl rfl) ?_
 try simp only [Act.put, List.setIfInBounds_toArray, List.set_cons_zero, List.set_cons_succ]
 refine wpList_nil ?_
 obtain ⟨ga, hga⟩ : ∃ g, goodN (A.length : Int) = g := ⟨_, rfl⟩
 have HGA := Lib.hid hga
 clear hga
 cases ga
 ·go_upto_region 1 with fail
  refine wp_act (fun a0 ha0 => ?_)
  have zsz : a0.tmps.size = 58 := by rw [ha0]; rfl
  have z2 : a0.eval (.tmp 2) = .pointer (some ⟨g1, 0, none⟩) := by rw [ha0]; rfl
  refine wrO [] slotsTmia1 waitTmia1 [Fct.val Flz 0 (.agg #[.int .u64 (s : Int), u]), Fct.val Flz 1 (.bool false), Fct.val Flz 2 (.bool true), Fct.val Flz 3 (.bool true), Fct.val Flz 4 (undef), Fct.val Flz 5 (undef), Fct.val Flz 6 (undef), Fct.val Flz 7 (.bool true), Fct.val Flz 8 (.bool true), Fct.val Flz 9 (undef), Fct.val Flz 10 (undef), Fct.val Flz 11 (undef), Fct.val Flz 12 (undef), Fct.val Flz 13 (undef), Fct.val Flz 14 (.bool true), Fct.val Flz 15 (.bool true), Fct.val Flz 16 (undef), Fct.val Flz 17 (undef), Fct.val Flz 18 (undef), Fct.val Flz 19 (undef), Fct.val Flz 20 (undef), Fct.val Flz 21 (undef), Fct.val Flz 22 (undef), Fct.val Flz 23 (.bool true)] (fun w' => Below w3.heap.size w3 w') _ 24 0 chkTmia1 (by kernel_rfl) (by kernel_rfl) (by kernel_rfl) (by decide) (Below.refl _ _) ?_ ?_
  ·refine lt_s (lt_s (lt_s (lt_s (lt_s (lt_s (lt_s (lt_s (lt_s (lt_s (lt_s (lt_s (lt_s (lt_s (lt_s (lt_s (lt_s (lt_s (lt_s (lt_s (lt_s (lt_s (lt_s (lt_s (lt_0) ?_) ?_) ?_) ?_) ?_) ?_) ?_) ?_) ?_) ?_) ?_) ?_) ?_) ?_) ?_) ?_) ?_) ?_) ?_) ?_) ?_) ?_) ?_) ?_
   ·intro f w1 hS hf aA hA
    have r2 : aA.eval (.tmp 2) = .pointer (some ⟨g1, 0, none⟩) := pO 2 hA (by kernel_rfl) z2
    exact fV rfl rfl (.agg #[.int .u64 (s : Int), u]) (ex_loadR 26 (.tmp 2) rfl ⟨g1, 0, none⟩ r2 (fun _ => by kernel_rfl) [.int .u64 (s : Int), u] (by kernel_rfl) ((HX1.out.keepB hS).part [.int .u64 (s : Int), u] 0 (fun j u hu => by rw [Nat.zero_add]; exact hu))) hS uS
   ·intro f w1 hS hf aA hA
    have r8 : aA.eval (.tmp 8) = .agg #[.int .u64 (s : Int), u] := pA 8 0 hA sbTmia1 (by kernel_rfl) zsz rfl (hf 0 (by decide))
    exact fC rfl rfl 11 #[(.tmp 8)] _ rfl #[.agg #[.int .u64 (s : Int), u]] (mp1 r8) (fun w => by kernel_rfl) _ (as_any (goodT_any _ _ _ w1 (HA.out.keep (HB.out.trans (hS.mono HB.out.size)))) (congrArg Value.bool HGA.out)) hS (fun _ _ h => uS.trans h)
   ·intro f w1 hS hf aA hA
    have r9 : aA.eval (.tmp 9) = .bool false := pA 9 1 hA sbTmia1 (by kernel_rfl) zsz rfl (hf 1 (by decide))
    exact fV rfl rfl (.bool true) (ex_not _ (.tmp 9) rfl r9) hS uS
   ·intro f w1 hS hf aA hA
    have r10 : aA.eval (.tmp 10) = .bool true := pA 10 2 hA sbTmia1 (by kernel_rfl) zsz rfl (hf 2 (by decide))
    exact fV rfl rfl (.bool true) (ex_move (.tmp 10) rfl r10) hS uS
   ·intro f w1 hS hf aA hA
    have t11 : aA.tmps[11]? = some (.bool true) := pG 11 3 hA sbTmia1 (by kernel_rfl) zsz rfl (hf 3 (by decide))
    exact flw_skip rfl ((wanted_of rfl 11 rfl t11).trans rfl) hS (Flz.refl _) uS
   ·intro f w1 hS hf aA hA
    have t11 : aA.tmps[11]? = some (.bool true) := pG 11 3 hA sbTmia1 (by kernel_rfl) zsz rfl (hf 3 (by decide))
    exact flw_skip rfl ((wanted_of rfl 11 rfl t11).trans rfl) hS (Flz.refl _) uS
   ·intro f w1 hS hf aA hA
    have t11 : aA.tmps[11]? = some (.bool true) := pG 11 3 hA sbTmia1 (by kernel_rfl) zsz rfl (hf 3 (by decide))
    exact flw_skip rfl ((wanted_of rfl 11 rfl t11).trans rfl) hS (Flz.refl _) uS
   ·intro f w1 hS hf aA hA
    have r11 : aA.eval (.tmp 11) = .bool true := pA 11 3 hA sbTmia1 (by kernel_rfl) zsz rfl (hf 3 (by decide))
    exact fV rfl rfl (.bool true) (ex_pick (.tmp 11) _ (.tmp 14) rfl true r11 ((if_pos rfl).trans rfl)) hS uS
   ·intro f w1 hS hf aA hA
    have r15 : aA.eval (.tmp 15) = .bool true := pA 15 7 hA sbTmia1 (by kernel_rfl) zsz rfl (hf 7 (by decide))
    exact fV rfl rfl (.bool true) (ex_move (.tmp 15) rfl r15) hS uS
   ·intro f w1 hS hf aA hA
    have t16 : aA.tmps[16]? = some (.bool true) := pG 16 8 hA sbTmia1 (by kernel_rfl) zsz rfl (hf 8 (by decide))
    exact flw_skip rfl ((wanted_of rfl 16 rfl t16).trans rfl) hS (Flz.refl _) uS
   ·intro f w1 hS hf aA hA
    have t16 : aA.tmps[16]? = some (.bool true) := pG 16 8 hA sbTmia1 (by kernel_rfl) zsz rfl (hf 8 (by decide))
    exact flw_skip rfl ((wanted_of rfl 16 rfl t16).trans rfl) hS (Flz.refl _) uS
   ·intro f w1 hS hf aA hA
    have t16 : aA.tmps[16]? = some (.bool true) := pG 16 8 hA sbTmia1 (by kernel_rfl) zsz rfl (hf 8 (by decide))
    exact flw_skip rfl ((wanted_of rfl 16 rfl t16).trans rfl) hS (Flz.refl _) uS
   ·intro f w1 hS hf aA hA
    have t16 : aA.tmps[16]? = some (.bool true) := pG 16 8 hA sbTmia1 (by kernel_rfl) zsz rfl (hf 8 (by decide))
    exact flw_skip rfl ((wanted_of rfl 16 rfl t16).trans rfl) hS (Flz.refl _) uS
   ·intro f w1 hS hf aA hA
    have t16 : aA.tmps[16]? = some (.bool true) := pG 16 8 hA sbTmia1 (by kernel_rfl) zsz rfl (hf 8 (by decide))
    exact flw_skip rfl ((wanted_of rfl 16 rfl t16).trans rfl) hS (Flz.refl _) uS
   ·intro f w1 hS hf aA hA
    have r16 : aA.eval (.tmp 16) = .bool true := pA 16 8 hA sbTmia1 (by kernel_rfl) zsz rfl (hf 8 (by decide))
    exact fV rfl rfl (.bool true) (ex_pick (.tmp 16) _ (.tmp 21) rfl true r16 ((if_pos rfl).trans rfl)) hS uS
   ·intro f w1 hS hf aA hA
    have r22 : aA.eval (.tmp 22) = .bool true := pA 22 14 hA sbTmia1 (by kernel_rfl) zsz rfl (hf 14 (by decide))
    exact fV rfl rfl (.bool true) (ex_move (.tmp 22) rfl r22) hS uS
   ·intro f w1 hS hf aA hA
    have t23 : aA.tmps[23]? = some (.bool true) := pG 23 15 hA sbTmia1 (by kernel_rfl) zsz rfl (hf 15 (by decide))
    exact flw_skip rfl ((wanted_of rfl 23 rfl t23).trans rfl) hS (Flz.refl _) uS
   ·intro f w1 hS hf aA hA
    have t23 : aA.tmps[23]? = some (.bool true) := pG 23 15 hA sbTmia1 (by kernel_rfl) zsz rfl (hf 15 (by decide))
    exact flw_skip rfl ((wanted_of rfl 23 rfl t23).trans rfl) hS (Flz.refl _) uS
   ·intro f w1 hS hf aA hA
    have t23 : aA.tmps[23]? = some (.bool true) := pG 23 15 hA sbTmia1 (by kernel_rfl) zsz rfl (hf 15 (by decide))
    exact flw_skip rfl ((wanted_of rfl 23 rfl t23).trans rfl) hS (Flz.refl _) uS
   ·intro f w1 hS hf aA hA
    have t23 : aA.tmps[23]? = some (.bool true) := pG 23 15 hA sbTmia1 (by kernel_rfl) zsz rfl (hf 15 (by decide))
    exact flw_skip rfl ((wanted_of rfl 23 rfl t23).trans rfl) hS (Flz.refl _) uS
   ·intro f w1 hS hf aA hA
    have t23 : aA.tmps[23]? = some (.bool true) := pG 23 15 hA sbTmia1 (by kernel_rfl) zsz rfl (hf 15 (by decide))
    exact flw_skip rfl ((wanted_of rfl 23 rfl t23).trans rfl) hS (Flz.refl _) uS
   ·intro f w1 hS hf aA hA
    have t23 : aA.tmps[23]? = some (.bool true) := pG 23 15 hA sbTmia1 (by kernel_rfl) zsz rfl (hf 15 (by decide))
    exact flw_skip rfl ((wanted_of rfl 23 rfl t23).trans rfl) hS (Flz.refl _) uS
   ·intro f w1 hS hf aA hA
    have t23 : aA.tmps[23]? = some (.bool true) := pG 23 15 hA sbTmia1 (by kernel_rfl) zsz rfl (hf 15 (by decide))
    exact flw_skip rfl ((wanted_of rfl 23 rfl t23).trans rfl) hS (Flz.refl _) uS
   ·intro f w1 hS hf aA hA
    have r23 : aA.eval (.tmp 23) = .bool true := pA 23 15 hA sbTmia1 (by kernel_rfl) zsz rfl (hf 15 (by decide))
    exact fV rfl rfl (.bool true) (ex_pick (.tmp 23) _ (.tmp 30) rfl true r23 ((if_pos rfl).trans rfl)) hS uS
  intro f u1 hS hf hap
  have h0 : f 0 = .agg #[.int .u64 (s : Int), u] := hf 0 (by decide)
  have h1 : f 1 = .bool false := hf 1 (by decide)
  have h2 : f 2 = .bool true := hf 2 (by decide)
  have h3 : f 3 = .bool true := hf 3 (by decide)
  have h4 : f 4 = undef := hf 4 (by decide)
  have h5 : f 5 = undef := hf 5 (by decide)
  have h6 : f 6 = undef := hf 6 (by decide)
  have h7 : f 7 = .bool true := hf 7 (by decide)
  have h8 : f 8 = .bool true := hf 8 (by decide)
  have h9 : f 9 = undef := hf 9 (by decide)
  have h10 : f 10 = undef := hf 10 (by decide)
  have h11 : f 11 = undef := hf 11 (by decide)
  have h12 : f 12 = undef := hf 12 (by decide)
  have h13 : f 13 = undef := hf 13 (by decide)
  have h14 : f 14 = .bool true := hf 14 (by decide)
  have h15 : f 15 = .bool true := hf 15 (by decide)
  have h16 : f 16 = undef := hf 16 (by decide)
  have h17 : f 17 = undef := hf 17 (by decide)
  have h18 : f 18 = undef := hf 18 (by decide)
  have h19 : f 19 = undef := hf 19 (by decide)
  have h20 : f 20 = undef := hf 20 (by decide)
  have h21 : f 21 = undef := hf 21 (by decide)
  have h22 : f 22 = undef := hf 22 (by decide)
  have h23 : f 23 = .bool true := hf 23 (by decide)
  clear hf hap
  clear zsz z2
  subst ha0
  simp only [slotsTmia1, putAll, h0, h1, h2, h3, h4, h5, h6, h7, h8, h9, h10, h11, h12, h13, h14, h15, h16, h17, h18, h19, h20, h21, h22, h23, Act.put, List.setIfInBounds_toArray, List.set_cons_zero, List.set_cons_succ]
  clear h0 h1 h2 h3 h4 h5 h6 h7 h8 h9 h10 h11 h12 h13 h14 h15 h16 h17 h18 h19 h20 h21 h22 h23
  refine tl_nil ?_
  replace HX1 := Lib.hid (HX1.out.keepB hS)
  replace HX2 := Lib.hid (HX2.out.keepB hS)
  replace HX3 := Lib.hid (HX3.out.keepB hS)
  replace HB := Lib.hid (HB.out.trans (hS.mono HB.out.size))
  clear hS
  go_upto_region 2 with fail
  refine wp_act (fun a0 ha0 => ?_)
  have zsz : a0.tmps.size = 58 := by rw [ha0]; rfl
  refine wrO [] slotsTmia2 waitTmia2 [Fct.val Flz 0 (.agg #[.int .u64 0, .slice none 0 0])] (fun w' => Below u1.heap.size u1 w') _ 1 2 chkTmia2 (by kernel_rfl) (by kernel_rfl) (by kernel_rfl) (by decide) (Below.refl _ _) ?_ ?_
  ·refine lt_s (lt_0) ?_
   ·intro f w1 hS hf aA hA
    exact fV rfl rfl (.agg #[.int .u64 0, .slice none 0 0]) (ex_build 26 _ rfl #[.int .u64 0, .slice none 0 0] [] (by kernel_rfl) builtT0) hS uS
  intro f u2 hS hf hap
  have h0 : f 0 = .agg #[.int .u64 0, .slice none 0 0] := hf 0 (by decide)
  clear hf hap
  clear zsz
  subst ha0
  simp only [slotsTmia2, putAll, h0, Act.put, List.setIfInBounds_toArray, List.set_cons_zero, List.set_cons_succ]
  clear h0
  have hBS := HB.out.trans (hS.mono HB.out.size)
  replace HX1 := Lib.hid (HX1.out.keepB hS)
  replace HX2 := Lib.hid (HX2.out.keepB hS)
  replace HX3 := Lib.hid (HX3.out.keepB hS)
  clear hS
  refine tl_store rfl (by kernel_rfl) 26 (.tmp 4) (.tmp 32) rfl g3 ([.int .u64 0, .slice none 0 0]) _ rfl rfl _ HX3.out (by kernel_rfl) rfl (tb_ones _ rfl) ?_
  intro u3 hp hbl hot
  replace HX1 : Hid (Has u3 g1 26 ([.int .u64 (s : Int), u])) := Lib.hid ((hot _ (HNE_g1_g3.out)).trans HX1.out)
  replace HX2 : Hid (Has u3 g2 26 ([.int .u64 (t : Int), v])) := Lib.hid ((hot _ (HNE_g2_g3.out)).trans HX2.out)
  replace HX3 : Hid (Has u3 g3 26 ([.int .u64 0, .slice none 0 0])) := Lib.hid hp
  replace hBS := hBS.trans (hbl _ HGg3.out)
  clear hp hbl hot
  try simp only [Act.put]
  refine tl_pure rfl (by kernel_rfl) (.int .i64 1) (ex_assign _ rfl rfl) ?_
  try simp only [Act.put, List.setIfInBounds_toArray, List.set_cons_zero, List.set_cons_succ]
  refine tl_nil ?_
  replace HB := Lib.hid hBS
  clear hBS
  go_wp2_with fail
  (try simp only [Exit.inBlock, Exit.then])
  have HN : Hid (minusT s A t B = (0, [], 1)) := Lib.hid (by rw [HOF.out]; unfold okM; rw [HGA.out]; rfl)
  refine bodyPost_ret (v := .tuple #[.agg #[.int .u64 0, .slice none 0 0], .int .i64 1]) ?_ rfl ⟨⟨_, rfl, .slice none 0 0, by rw [HN.out]; rfl, by rw [HN.out]; exact Cs.nil _⟩, HB.out⟩
  exact results_twoT rfl _ _ g3 26 _ (0, 0) rfl HX3.out _ rfl Tryd.underlying26 (by kernel_rfl)
 have hAB : A.length = B.length := hq
 have HGB : Hid (goodN (B.length : Int) = true) := Lib.hid (by rw [← hAB]; exact HGA.out)
 have HS3 : Hid (s = t) := Lib.hid hst
 have HNS : Hid (((s : Int) != (t : Int)) = false) := Lib.hid (by rw [hst]; simp)
 have HNL : Hid (((A.length : Int) != (B.length : Int)) = false) := Lib.hid (by rw [hAB]; simp)
 clear hst
 go_upto_region 1 with fail
 refine wp_act (fun a0 ha0 => ?_)
 have zsz : a0.tmps.size = 58 := by rw [ha0]; rfl
 have z2 : a0.eval (.tmp 2) = .pointer (some ⟨g1, 0, none⟩) := by rw [ha0]; rfl
 have z3 : a0.eval (.tmp 3) = .pointer (some ⟨g2, 0, none⟩) := by rw [ha0]; rfl
 refine wrO [] slotsTmig1 waitTmig1 [Fct.val Flz 0 (.agg #[.int .u64 (s : Int), u]), Fct.val Flz 1 (.bool true), Fct.val Flz 2 (.bool false), Fct.val Flz 3 (.bool false), Fct.val Flz 4 (.agg #[.int .u64 (t : Int), v]), Fct.val Flz 5 (.bool true), Fct.val Flz 6 (.bool false), Fct.val Flz 7 (.bool false), Fct.val Flz 8 (.bool false), Fct.val Flz 9 (.pointer (some ⟨g1, 0, none⟩)), Fct.val Flz 10 (.int .u64 (s : Int)), Fct.val Flz 11 (.pointer (some ⟨g2, 0, none⟩)), Fct.val Flz 12 (.int .u64 (t : Int)), Fct.val Flz 13 (.bool false), Fct.val Flz 14 (.bool false), Fct.val Flz 15 (.bool false), Fct.val Flz 16 (.pointer (some ⟨g1, 1, none⟩)), Fct.val Flz 17 (u), Fct.val Flz 18 (.int .i64 (((A).length : Int))), Fct.val Flz 19 (.pointer (some ⟨g2, 1, none⟩)), Fct.val Flz 20 (v), Fct.val Flz 21 (.int .i64 (((B).length : Int))), Fct.val Flz 22 (.bool false), Fct.val Flz 23 (.bool false)] (fun w' => Below w3.heap.size w3 w') _ 24 0 chkTmig1 (by kernel_rfl) (by kernel_rfl) (by kernel_rfl) (by decide) (Below.refl _ _) ?_ ?_
 ·refine lt_s (lt_s (lt_s (lt_s (lt_s (lt_s (lt_s (lt_s (lt_s (lt_s (lt_s (lt_s (lt_s (lt_s (lt_s (lt_s (lt_s (lt_s (lt_s (lt_s (lt_s (lt_s (lt_s (lt_s (lt_0) ?_) ?_) ?_) ?_) ?_) ?_) ?_) ?_) ?_) ?_) ?_) ?_) ?_) ?_) ?_) ?_) ?_) ?_) ?_) ?_) ?_) ?_) ?_) ?_
  ·intro f w1 hS hf aA hA
   have r2 : aA.eval (.tmp 2) = .pointer (some ⟨g1, 0, none⟩) := pO 2 hA (by kernel_rfl) z2
   exact fV rfl rfl (.agg #[.int .u64 (s : Int), u]) (ex_loadR 26 (.tmp 2) rfl ⟨g1, 0, none⟩ r2 (fun _ => by kernel_rfl) [.int .u64 (s : Int), u] (by kernel_rfl) ((HX1.out.keepB hS).part [.int .u64 (s : Int), u] 0 (fun j u hu => by rw [Nat.zero_add]; exact hu))) hS uS
  ·intro f w1 hS hf aA hA
   have r8 : aA.eval (.tmp 8) = .agg #[.int .u64 (s : Int), u] := pA 8 0 hA sbTmig1 (by kernel_rfl) zsz rfl (hf 0 (by decide))
   exact fC rfl rfl 11 #[(.tmp 8)] _ rfl #[.agg #[.int .u64 (s : Int), u]] (mp1 r8) (fun w => by kernel_rfl) _ (as_any (goodT_any _ _ _ w1 (HA.out.keep (HB.out.trans (hS.mono HB.out.size)))) (congrArg Value.bool HGA.out)) hS (fun _ _ h => uS.trans h)
  ·intro f w1 hS hf aA hA
   have r9 : aA.eval (.tmp 9) = .bool true := pA 9 1 hA sbTmig1 (by kernel_rfl) zsz rfl (hf 1 (by decide))
   exact fV rfl rfl (.bool false) (ex_not _ (.tmp 9) rfl r9) hS uS
  ·intro f w1 hS hf aA hA
   have r10 : aA.eval (.tmp 10) = .bool false := pA 10 2 hA sbTmig1 (by kernel_rfl) zsz rfl (hf 2 (by decide))
   exact fV rfl rfl (.bool false) (ex_move (.tmp 10) rfl r10) hS uS
  ·intro f w1 hS hf aA hA
   have t11 : aA.tmps[11]? = some (.bool false) := pG 11 3 hA sbTmig1 (by kernel_rfl) zsz rfl (hf 3 (by decide))
   have r3 : aA.eval (.tmp 3) = .pointer (some ⟨g2, 0, none⟩) := pO 3 hA (by kernel_rfl) z3
   exact fV rfl ((wanted_of rfl 11 rfl t11).trans rfl) (.agg #[.int .u64 (t : Int), v]) (ex_loadR 26 (.tmp 3) rfl ⟨g2, 0, none⟩ r3 (fun _ => by kernel_rfl) [.int .u64 (t : Int), v] (by kernel_rfl) ((HX2.out.keepB hS).part [.int .u64 (t : Int), v] 0 (fun j u hu => by rw [Nat.zero_add]; exact hu))) hS uS
  ·intro f w1 hS hf aA hA
   have t11 : aA.tmps[11]? = some (.bool false) := pG 11 3 hA sbTmig1 (by kernel_rfl) zsz rfl (hf 3 (by decide))
   have r12 : aA.eval (.tmp 12) = .agg #[.int .u64 (t : Int), v] := pA 12 4 hA sbTmig1 (by kernel_rfl) zsz rfl (hf 4 (by decide))
   exact fC rfl ((wanted_of rfl 11 rfl t11).trans rfl) 11 #[(.tmp 12)] _ rfl #[.agg #[.int .u64 (t : Int), v]] (mp1 r12) (fun w => by kernel_rfl) _ (as_any (goodT_any _ _ _ w1 (HV.out.keep (HB.out.trans (hS.mono HB.out.size)))) (congrArg Value.bool HGB.out)) hS (fun _ _ h => uS.trans h)
  ·intro f w1 hS hf aA hA
   have t11 : aA.tmps[11]? = some (.bool false) := pG 11 3 hA sbTmig1 (by kernel_rfl) zsz rfl (hf 3 (by decide))
   have r13 : aA.eval (.tmp 13) = .bool true := pA 13 5 hA sbTmig1 (by kernel_rfl) zsz rfl (hf 5 (by decide))
   exact fV rfl ((wanted_of rfl 11 rfl t11).trans rfl) (.bool false) (ex_not _ (.tmp 13) rfl r13) hS uS
  ·intro f w1 hS hf aA hA
   have r11 : aA.eval (.tmp 11) = .bool false := pA 11 3 hA sbTmig1 (by kernel_rfl) zsz rfl (hf 3 (by decide))
   have r14 : aA.eval (.tmp 14) = .bool false := pA 14 6 hA sbTmig1 (by kernel_rfl) zsz rfl (hf 6 (by decide))
   exact fV rfl rfl (.bool false) (ex_pick (.tmp 11) _ (.tmp 14) rfl false r11 ((if_neg (by decide)).trans r14)) hS uS
  ·intro f w1 hS hf aA hA
   have r15 : aA.eval (.tmp 15) = .bool false := pA 15 7 hA sbTmig1 (by kernel_rfl) zsz rfl (hf 7 (by decide))
   exact fV rfl rfl (.bool false) (ex_move (.tmp 15) rfl r15) hS uS
  ·intro f w1 hS hf aA hA
   have t16 : aA.tmps[16]? = some (.bool false) := pG 16 8 hA sbTmig1 (by kernel_rfl) zsz rfl (hf 8 (by decide))
   have r2 : aA.eval (.tmp 2) = .pointer (some ⟨g1, 0, none⟩) := pO 2 hA (by kernel_rfl) z2
   exact fV rfl ((wanted_of rfl 16 rfl t16).trans rfl) (.pointer (some ⟨g1, 0, none⟩)) (fldT0 26 (Or.inl rfl) (.tmp 2) rfl g1 r2) hS uS
  ·intro f w1 hS hf aA hA
   have t16 : aA.tmps[16]? = some (.bool false) := pG 16 8 hA sbTmig1 (by kernel_rfl) zsz rfl (hf 8 (by decide))
   have r17 : aA.eval (.tmp 17) = .pointer (some ⟨g1, 0, none⟩) := pA 17 9 hA sbTmig1 (by kernel_rfl) zsz rfl (hf 9 (by decide))
   exact fV rfl ((wanted_of rfl 16 rfl t16).trans rfl) (.int .u64 (s : Int)) (ex_load1 23 (.tmp 17) rfl ⟨g1, 0, none⟩ r17 (fun _ => by kernel_rfl) ((HX1.out.keepB hS).cellv rfl)) hS uS
  ·intro f w1 hS hf aA hA
   have t16 : aA.tmps[16]? = some (.bool false) := pG 16 8 hA sbTmig1 (by kernel_rfl) zsz rfl (hf 8 (by decide))
   have r3 : aA.eval (.tmp 3) = .pointer (some ⟨g2, 0, none⟩) := pO 3 hA (by kernel_rfl) z3
   exact fV rfl ((wanted_of rfl 16 rfl t16).trans rfl) (.pointer (some ⟨g2, 0, none⟩)) (fldT0 26 (Or.inl rfl) (.tmp 3) rfl g2 r3) hS uS
  ·intro f w1 hS hf aA hA
   have t16 : aA.tmps[16]? = some (.bool false) := pG 16 8 hA sbTmig1 (by kernel_rfl) zsz rfl (hf 8 (by decide))
   have r19 : aA.eval (.tmp 19) = .pointer (some ⟨g2, 0, none⟩) := pA 19 11 hA sbTmig1 (by kernel_rfl) zsz rfl (hf 11 (by decide))
   exact fV rfl ((wanted_of rfl 16 rfl t16).trans rfl) (.int .u64 (t : Int)) (ex_load1 23 (.tmp 19) rfl ⟨g2, 0, none⟩ r19 (fun _ => by kernel_rfl) ((HX2.out.keepB hS).cellv rfl)) hS uS
  ·intro f w1 hS hf aA hA
   have t16 : aA.tmps[16]? = some (.bool false) := pG 16 8 hA sbTmig1 (by kernel_rfl) zsz rfl (hf 8 (by decide))
   have r18 : aA.eval (.tmp 18) = .int .u64 (s : Int) := pA 18 10 hA sbTmig1 (by kernel_rfl) zsz rfl (hf 10 (by decide))
   have r20 : aA.eval (.tmp 20) = .int .u64 (t : Int) := pA 20 12 hA sbTmig1 (by kernel_rfl) zsz rfl (hf 12 (by decide))
   exact fV rfl ((wanted_of rfl 16 rfl t16).trans rfl) (.bool false) (Eq.trans (ex_int .neq _ _ (.tmp 18) (.tmp 20) rfl .u64 ((s : Int)) ((t : Int)) r18 r20 (.bool (((s : Int)) != ((t : Int)))) (fun _ => rfl)) (by rw [HNS.out])) hS uS
  ·intro f w1 hS hf aA hA
   have r16 : aA.eval (.tmp 16) = .bool false := pA 16 8 hA sbTmig1 (by kernel_rfl) zsz rfl (hf 8 (by decide))
   have r21 : aA.eval (.tmp 21) = .bool false := pA 21 13 hA sbTmig1 (by kernel_rfl) zsz rfl (hf 13 (by decide))
   exact fV rfl rfl (.bool false) (ex_pick (.tmp 16) _ (.tmp 21) rfl false r16 ((if_neg (by decide)).trans r21)) hS uS
  ·intro f w1 hS hf aA hA
   have r22 : aA.eval (.tmp 22) = .bool false := pA 22 14 hA sbTmig1 (by kernel_rfl) zsz rfl (hf 14 (by decide))
   exact fV rfl rfl (.bool false) (ex_move (.tmp 22) rfl r22) hS uS
  ·intro f w1 hS hf aA hA
   have t23 : aA.tmps[23]? = some (.bool false) := pG 23 15 hA sbTmig1 (by kernel_rfl) zsz rfl (hf 15 (by decide))
   have r2 : aA.eval (.tmp 2) = .pointer (some ⟨g1, 0, none⟩) := pO 2 hA (by kernel_rfl) z2
   exact fV rfl ((wanted_of rfl 23 rfl t23).trans rfl) (.pointer (some ⟨g1, 1, none⟩)) (fldT1 26 (Or.inl rfl) (.tmp 2) rfl g1 r2) hS uS
  ·intro f w1 hS hf aA hA
   have t23 : aA.tmps[23]? = some (.bool false) := pG 23 15 hA sbTmig1 (by kernel_rfl) zsz rfl (hf 15 (by decide))
   have r24 : aA.eval (.tmp 24) = .pointer (some ⟨g1, 1, none⟩) := pA 24 16 hA sbTmig1 (by kernel_rfl) zsz rfl (hf 16 (by decide))
   exact fV rfl ((wanted_of rfl 23 rfl t23).trans rfl) (u) (ex_load1 24 (.tmp 24) rfl ⟨g1, 1, none⟩ r24 (fun _ => by kernel_rfl) ((HX1.out.keepB hS).cellv rfl)) hS uS
  ·intro f w1 hS hf aA hA
   have t23 : aA.tmps[23]? = some (.bool false) := pG 23 15 hA sbTmig1 (by kernel_rfl) zsz rfl (hf 15 (by decide))
   have r25 : aA.eval (.tmp 25) = u := pA 25 17 hA sbTmig1 (by kernel_rfl) zsz rfl (hf 17 (by decide))
   obtain ⟨q9, c9, hv9, _⟩ := (HA.out.keep (HB.out.trans (hS.mono HB.out.size)))
   exact fV rfl ((wanted_of rfl 23 rfl t23).trans rfl) (.int .i64 (((A).length : Int))) (ex_len 24 68 (.tmp 25) rfl (by kernel_rfl) q9 (A).length c9 (r25.trans hv9)) hS uS
  ·intro f w1 hS hf aA hA
   have t23 : aA.tmps[23]? = some (.bool false) := pG 23 15 hA sbTmig1 (by kernel_rfl) zsz rfl (hf 15 (by decide))
   have r3 : aA.eval (.tmp 3) = .pointer (some ⟨g2, 0, none⟩) := pO 3 hA (by kernel_rfl) z3
   exact fV rfl ((wanted_of rfl 23 rfl t23).trans rfl) (.pointer (some ⟨g2, 1, none⟩)) (fldT1 26 (Or.inl rfl) (.tmp 3) rfl g2 r3) hS uS
  ·intro f w1 hS hf aA hA
   have t23 : aA.tmps[23]? = some (.bool false) := pG 23 15 hA sbTmig1 (by kernel_rfl) zsz rfl (hf 15 (by decide))
   have r27 : aA.eval (.tmp 27) = .pointer (some ⟨g2, 1, none⟩) := pA 27 19 hA sbTmig1 (by kernel_rfl) zsz rfl (hf 19 (by decide))
   exact fV rfl ((wanted_of rfl 23 rfl t23).trans rfl) (v) (ex_load1 24 (.tmp 27) rfl ⟨g2, 1, none⟩ r27 (fun _ => by kernel_rfl) ((HX2.out.keepB hS).cellv rfl)) hS uS
  ·intro f w1 hS hf aA hA
   have t23 : aA.tmps[23]? = some (.bool false) := pG 23 15 hA sbTmig1 (by kernel_rfl) zsz rfl (hf 15 (by decide))
   have r28 : aA.eval (.tmp 28) = v := pA 28 20 hA sbTmig1 (by kernel_rfl) zsz rfl (hf 20 (by decide))
   obtain ⟨q9, c9, hv9, _⟩ := (HV.out.keep (HB.out.trans (hS.mono HB.out.size)))
   exact fV rfl ((wanted_of rfl 23 rfl t23).trans rfl) (.int .i64 (((B).length : Int))) (ex_len 24 68 (.tmp 28) rfl (by kernel_rfl) q9 (B).length c9 (r28.trans hv9)) hS uS
  ·intro f w1 hS hf aA hA
   have t23 : aA.tmps[23]? = some (.bool false) := pG 23 15 hA sbTmig1 (by kernel_rfl) zsz rfl (hf 15 (by decide))
   have r26 : aA.eval (.tmp 26) = .int .i64 (((A).length : Int)) := pA 26 18 hA sbTmig1 (by kernel_rfl) zsz rfl (hf 18 (by decide))
   have r29 : aA.eval (.tmp 29) = .int .i64 (((B).length : Int)) := pA 29 21 hA sbTmig1 (by kernel_rfl) zsz rfl (hf 21 (by decide))
   exact fV rfl ((wanted_of rfl 23 rfl t23).trans rfl) (.bool false) (Eq.trans (ex_int .neq _ _ (.tmp 26) (.tmp 29) rfl .i64 (((A).length : Int)) (((B).length : Int)) r26 r29 (.bool ((((A).length : Int)) != (((B).length : Int)))) (fun _ => rfl)) (by rw [HNL.out])) hS uS
  ·intro f w1 hS hf aA hA
   have r23 : aA.eval (.tmp 23) = .bool false := pA 23 15 hA sbTmig1 (by kernel_rfl) zsz rfl (hf 15 (by decide))
   have r30 : aA.eval (.tmp 30) = .bool false := pA 30 22 hA sbTmig1 (by kernel_rfl) zsz rfl (hf 22 (by decide))
   exact fV rfl rfl (.bool false) (ex_pick (.tmp 23) _ (.tmp 30) rfl false r23 ((if_neg (by decide)).trans r30)) hS uS
 intro f u1 hS hf hap
 have h0 : f 0 = .agg #[.int .u64 (s : Int), u] := hf 0 (by decide)
 have h1 : f 1 = .bool true := hf 1 (by decide)
 have h2 : f 2 = .bool false := hf 2 (by decide)
 have h3 : f 3 = .bool false := hf 3 (by decide)
 have h4 : f 4 = .agg #[.int .u64 (t : Int), v] := hf 4 (by decide)
 have h5 : f 5 = .bool true := hf 5 (by decide)
 have h6 : f 6 = .bool false := hf 6 (by decide)
 have h7 : f 7 = .bool false := hf 7 (by decide)
 have h8 : f 8 = .bool false := hf 8 (by decide)
 have h9 : f 9 = .pointer (some ⟨g1, 0, none⟩) := hf 9 (by decide)
 have h10 : f 10 = .int .u64 (s : Int) := hf 10 (by decide)
 have h11 : f 11 = .pointer (some ⟨g2, 0, none⟩) := hf 11 (by decide)
 have h12 : f 12 = .int .u64 (t : Int) := hf 12 (by decide)
 have h13 : f 13 = .bool false := hf 13 (by decide)
 have h14 : f 14 = .bool false := hf 14 (by decide)
 have h15 : f 15 = .bool false := hf 15 (by decide)
 have h16 : f 16 = .pointer (some ⟨g1, 1, none⟩) := hf 16 (by decide)
 have h17 : f 17 = u := hf 17 (by decide)
 have h18 : f 18 = .int .i64 (((A).length : Int)) := hf 18 (by decide)
 have h19 : f 19 = .pointer (some ⟨g2, 1, none⟩) := hf 19 (by decide)
 have h20 : f 20 = v := hf 20 (by decide)
 have h21 : f 21 = .int .i64 (((B).length : Int)) := hf 21 (by decide)
 have h22 : f 22 = .bool false := hf 22 (by decide)
 have h23 : f 23 = .bool false := hf 23 (by decide)
 clear hf hap
 clear zsz z2 z3
 subst ha0
 simp only [slotsTmig1, putAll, h0, h1, h2, h3, h4, h5, h6, h7, h8, h9, h10, h11, h12, h13, h14, h15, h16, h17, h18, h19, h20, h21, h22, h23, Act.put, List.setIfInBounds_toArray, List.set_cons_zero, List.set_cons_succ]
 clear h0 h1 h2 h3 h4 h5 h6 h7 h8 h9 h10 h11 h12 h13 h14 h15 h16 h17 h18 h19 h20 h21 h22 h23
 refine tl_nil ?_
 replace HX1 := Lib.hid (HX1.out.keepB hS)
 replace HX2 := Lib.hid (HX2.out.keepB hS)
 replace HX3 := Lib.hid (HX3.out.keepB hS)
 replace HB := Lib.hid (HB.out.trans (hS.mono HB.out.size))
 clear hS
 have HBB : Hid (w.heap.size ≤ u1.heap.size) := Lib.hid HB.out.size
 go_upto_region 3 with fail
 refine wp_act (fun a0 ha0 => ?_)
 have zsz : a0.tmps.size = 58 := by rw [ha0]; rfl
 have z2 : a0.eval (.tmp 2) = .pointer (some ⟨g1, 0, none⟩) := by rw [ha0]; rfl
 refine wrO [] slotsTmig3 waitTmig3 [Fct.val Flz 0 (.pointer (some ⟨g1, 1, none⟩)), Fct.val Flz 1 (u), Fct.obj 2 (fun v w => ∃ zz, v = zz ∧ RowO u1.heap.size 68 w zz (A)) (fun _ _ _ ⟨zz, a, b⟩ he => ⟨zz, a, b.flz he⟩), Fct.val Flz 3 (.pointer (some ⟨g1, 1, none⟩))] (fun w' => Below u1.heap.size u1 w') _ 4 1 chkTmig3 (by kernel_rfl) (by kernel_rfl) (by kernel_rfl) (by decide) (Below.refl _ _) ?_ ?_
 ·refine lt_s (lt_s (lt_s (lt_s (lt_0) ?_) ?_) ?_) ?_
  ·intro f w1 hS hf aA hA
   have r2 : aA.eval (.tmp 2) = .pointer (some ⟨g1, 0, none⟩) := pO 2 hA (by kernel_rfl) z2
   exact fV rfl rfl (.pointer (some ⟨g1, 1, none⟩)) (fldT1 26 (Or.inl rfl) (.tmp 2) rfl g1 r2) hS uS
  ·intro f w1 hS hf aA hA
   have r33 : aA.eval (.tmp 33) = .pointer (some ⟨g1, 1, none⟩) := pA 33 0 hA sbTmig3 (by kernel_rfl) zsz rfl (hf 0 (by decide))
   exact fV rfl rfl (u) (ex_load1 24 (.tmp 33) rfl ⟨g1, 1, none⟩ r33 (fun _ => by kernel_rfl) ((HX1.out.keepB hS).cellv rfl)) hS uS
  ·intro f w1 hS hf aA hA
   have r34 : aA.eval (.tmp 34) = u := pA 34 1 hA sbTmig3 (by kernel_rfl) zsz rfl (hf 1 (by decide))
   exact fC rfl rfl 31 #[(.tmp 34)] _ rfl #[u] (mp1 r34) (fun w => by kernel_rfl) _ (cloneC_in _ _ hM w1 (HA.out.keep (HB.out.trans (hS.mono HB.out.size))) u1.heap.size hS.size) hS (fun _ _ ⟨zz, a, b⟩ => ⟨zz, uS.trans a, b⟩)
  ·intro f w1 hS hf aA hA
   have r2 : aA.eval (.tmp 2) = .pointer (some ⟨g1, 0, none⟩) := pO 2 hA (by kernel_rfl) z2
   exact fV rfl rfl (.pointer (some ⟨g1, 1, none⟩)) (fldT1 26 (Or.inl rfl) (.tmp 2) rfl g1 r2) hS uS
 intro f u2 hS hf hap
 have h0 : f 0 = .pointer (some ⟨g1, 1, none⟩) := hf 0 (by decide)
 have h1 : f 1 = u := hf 1 (by decide)
 obtain ⟨v3_2, h2, hu2⟩ := hf 2 (by decide)
 have HU3_2 := Lib.hid hu2
 clear hu2
 have h3 : f 3 = .pointer (some ⟨g1, 1, none⟩) := hf 3 (by decide)
 clear hf hap
 clear zsz z2
 subst ha0
 simp only [slotsTmig3, putAll, h0, h1, h2, h3, Act.put, List.setIfInBounds_toArray, List.set_cons_zero, List.set_cons_succ]
 clear h0 h1 h2 h3
 have hBS := HB.out.trans (hS.mono HB.out.size)
 replace HX1 := Lib.hid (HX1.out.keepB hS)
 replace HX2 := Lib.hid (HX2.out.keepB hS)
 replace HX3 := Lib.hid (HX3.out.keepB hS)
 clear hS
 refine tl_step rfl rfl (fun K hK => wp_store_at 24 (by kernel_rfl) (.tmp 36) (.tmp 35) rfl g1 1 26 [.int .u64 (s : Int), u] HX1.out (by simp) rfl v3_2 HU3_2.out.one rfl (fun u3 hp hbl hot => hK _ _ ?_))
 replace HX2 : Hid (Has u3 g2 26 ([.int .u64 (t : Int), v])) := Lib.hid ((hot _ (Ne.symm HNE_g1_g2.out)).trans HX2.out)
 replace HX3 : Hid (Has u3 g3 26 ([.int .u64 0, .slice none 0 0])) := Lib.hid ((hot _ (Ne.symm HNE_g1_g3.out)).trans HX3.out)
 replace HU3_2 := Lib.hid (HU3_2.out.hotb HX1.out HA.out.sl (by decide) (hbl 0 (Nat.zero_le _)).size hot)
 replace HX1 : Hid (Has u3 g1 26 ([.int .u64 (s : Int), v3_2])) := Lib.hid hp
 replace hBS := hBS.trans (hbl _ HGg1.out)
 clear hp hbl hot
 try simp only [Act.put]
 refine tl_nil ?_
 replace HB := Lib.hid hBS
 clear hBS
 go_upto_region 4 with fail
 refine wp_act (fun a0 ha0 => ?_)
 have zsz : a0.tmps.size = 58 := by rw [ha0]; rfl
 have z3 : a0.eval (.tmp 3) = .pointer (some ⟨g2, 0, none⟩) := by rw [ha0]; rfl
 refine wrO [] slotsTmig4 waitTmig4 [Fct.val Flz 0 (.pointer (some ⟨g2, 1, none⟩)), Fct.val Flz 1 (v), Fct.val Flz 2 (.int .i64 (((B).length : Int))), Fct.val Flz 3 (.int .i64 0)] (fun w' => Below u3.heap.size u3 w') _ 4 0 chkTmig4 (by kernel_rfl) (by kernel_rfl) (by kernel_rfl) (by decide) (Below.refl _ _) ?_ ?_
 ·refine lt_s (lt_s (lt_s (lt_s (lt_0) ?_) ?_) ?_) ?_
  ·intro f w1 hS hf aA hA
   have r3 : aA.eval (.tmp 3) = .pointer (some ⟨g2, 0, none⟩) := pO 3 hA (by kernel_rfl) z3
   exact fV rfl rfl (.pointer (some ⟨g2, 1, none⟩)) (fldT1 26 (Or.inl rfl) (.tmp 3) rfl g2 r3) hS uS
  ·intro f w1 hS hf aA hA
   have r37 : aA.eval (.tmp 37) = .pointer (some ⟨g2, 1, none⟩) := pA 37 0 hA sbTmig4 (by kernel_rfl) zsz rfl (hf 0 (by decide))
   exact fV rfl rfl (v) (ex_load1 24 (.tmp 37) rfl ⟨g2, 1, none⟩ r37 (fun _ => by kernel_rfl) ((HX2.out.keepB hS).cellv rfl)) hS uS
  ·intro f w1 hS hf aA hA
   have r38 : aA.eval (.tmp 38) = v := pA 38 1 hA sbTmig4 (by kernel_rfl) zsz rfl (hf 1 (by decide))
   obtain ⟨q9, c9, hv9, _⟩ := (HV.out.keep (HB.out.trans (hS.mono HB.out.size)))
   exact fV rfl rfl (.int .i64 (((B).length : Int))) (ex_len 24 68 (.tmp 38) rfl (by kernel_rfl) q9 (B).length c9 (r38.trans hv9)) hS uS
  ·intro f w1 hS hf aA hA
   exact fV rfl rfl (.int .i64 0) (ex_move _ rfl rfl) hS uS
 intro f u4 hS hf hap
 have h0 : f 0 = .pointer (some ⟨g2, 1, none⟩) := hf 0 (by decide)
 have h1 : f 1 = v := hf 1 (by decide)
 have h2 : f 2 = .int .i64 (((B).length : Int)) := hf 2 (by decide)
 have h3 : f 3 = .int .i64 0 := hf 3 (by decide)
 clear hf hap
 clear zsz z3
 subst ha0
 simp only [slotsTmig4, putAll, h0, h1, h2, h3, Act.put, List.setIfInBounds_toArray, List.set_cons_zero, List.set_cons_succ]
 clear h0 h1 h2 h3
 refine tl_nil ?_
 replace HX1 := Lib.hid (HX1.out.keepB hS)
 replace HX2 := Lib.hid (HX2.out.keepB hS)
 replace HX3 := Lib.hid (HX3.out.keepB hS)
 replace HU3_2 := Lib.hid (HU3_2.out.keep hS)
 replace HB := Lib.hid (HB.out.trans (hS.mono HB.out.size))
 clear hS
 rw [← mixM_zero A B] at HU3_2
 go_wp2_with fail
 go_loopw [40] (fun vi wr => ∃ i : Nat, i ≤ B.length ∧ vi = .int .i64 i ∧ RowO u1.heap.size 68 wr v3_2 (mixM A B i) ∧ Has wr g1 26 [.int .u64 (s : Int), v3_2] ∧ Has wr g2 26 [.int .u64 (t : Int), v] ∧ Has wr g3 26 [.int .u64 0, .slice none 0 0] ∧ Below w.heap.size w wr) (fun vi _ => B.length - (intOf vi).toNat)
 case atStart => exact ⟨0, by omega, rfl, HU3_2.out, HX1.out, HX2.out, HX3.out, HB.out⟩
 case round =>
  clear HU3_2 HX1 HX2 HX3 HB
  rename_i wr
  obtain ⟨i, hi, rfl, ho, hx1, hx2, hx3, hB⟩ := hrel
  have HO := Lib.hid ho
  have HX1 := Lib.hid hx1
  have HX2 := Lib.hid hx2
  have HX3 := Lib.hid hx3
  have HB := Lib.hid hB
  clear ho hx1 hx2 hx3 hB
  by_cases hlt : i < B.length
  ·have hla : i < A.length := by omega
   have hlm : i < (mixM A B i).length := by rw [mixM_len hAB i (by omega)]; exact hla
   have HAT : Hid ((mixM A B i)[i] = A[i]) := Lib.hid (mixM_at hAB i hla hlm)
   have HST := Lib.hid (mixM_succ hAB i hla)
   obtain ⟨a, cp2, hv, _, hc⟩ := (HV.out.keep HB.out).el hlt
   have HVV := Lib.hid hv
   have HCC := Lib.hid hc
   have k3 : (i : Int) < (B.length : Int) := by omega
   clear hv hc
   go_upto_region 6 with fail
   refine wp_act (fun a0 ha0 => ?_)
   have zsz : a0.tmps.size = 58 := by rw [ha0]; rfl
   have z40 : a0.eval (.tmp 40) = .int .i64 ((i : Int)) := by rw [ha0]; rfl
   have z38 : a0.eval (.tmp 38) = v := by rw [ha0]; rfl
   refine wrO [] slotsTmil6 waitTmil6 [Fct.val Flz 0 (.int .i64 ((i : Int))), Fct.val Flz 1 (.pointer (some (a.add (i * 65)))), Fct.val Flz 2 (aggC ((B[i]))), Fct.obj 3 (fun v w => ∃ g, v = .pointer (some ⟨g, 0, none⟩) ∧ wr.heap.size ≤ g ∧ Has w g 68 (encC zC)) (fun _ _ _ ⟨g, a, b, c⟩ he => ⟨g, a, b, c.flz he (by decide)⟩), Fct.val Flz 4 (.int .i64 ((i : Int)))] (fun w' => Below wr.heap.size wr w') _ 5 1 chkTmil6 (by kernel_rfl) (by kernel_rfl) (by kernel_rfl) (by decide) (Below.refl _ _) ?_ ?_
   ·refine lt_s (lt_s (lt_s (lt_s (lt_s (lt_0) ?_) ?_) ?_) ?_) ?_
    ·intro f w1 hS hf aA hA
     have r40 : aA.eval (.tmp 40) = .int .i64 ((i : Int)) := pO 40 hA (by kernel_rfl) z40
     exact fV rfl rfl (.int .i64 ((i : Int))) (ex_move (.tmp 40) rfl r40) hS uS
    ·intro f w1 hS hf aA hA
     have r38 : aA.eval (.tmp 38) = v := pO 38 hA (by kernel_rfl) z38
     have r40 : aA.eval (.tmp 40) = .int .i64 ((i : Int)) := pO 40 hA (by kernel_rfl) z40
     exact fV rfl rfl (.pointer (some (a.add (i * 65)))) (ex_indexS 24 68 (.tmp 38) (.tmp 40) rfl a B.length cp2 i 65 (by kernel_rfl) (fun _ => by kernel_rfl) (Eq.trans r38 HVV.out) r40 hlt) hS uS
    ·intro f w1 hS hf aA hA
     have r43 : aA.eval (.tmp 43) = .pointer (some (a.add (i * 65))) := pA 43 1 hA sbTmil6 (by kernel_rfl) zsz rfl (hf 1 (by decide))
     exact fV rfl rfl (aggC ((B[i]))) (ex_loadR 68 (.tmp 43) rfl (a.add (i * 65)) r43 (fun _ => by kernel_rfl) (encC ((B[i]))) (by rw [encC_len]; kernel_rfl) (HCC.out w1 hS.block)) hS uS
    ·intro f w1 hS hf aA hA
     exact flw_wp rfl rfl (fun K hK => wp_alloc_row 68 rfl (aggC zC) (fun w => by kernel_rfl) (hK _ _ (hS.alloc hS.size _) (Flz.al _ _) ⟨_, uS, hS.size, Has.made' _ _ _ _ rfl⟩))
    ·intro f w1 hS hf aA hA
     have r42 : aA.eval (.tmp 42) = .int .i64 ((i : Int)) := pA 42 0 hA sbTmil6 (by kernel_rfl) zsz rfl (hf 0 (by decide))
     exact fV rfl rfl (.int .i64 ((i : Int))) (ex_assign (.tmp 42) rfl r42) hS uS
   intro f u6 hS hf hap
   have h0 : f 0 = .int .i64 ((i : Int)) := hf 0 (by decide)
   have h1 : f 1 = .pointer (some (a.add (i * 65))) := hf 1 (by decide)
   have h2 : f 2 = aggC ((B[i])) := hf 2 (by decide)
   obtain ⟨b6_3, h3, hgb3, hhb3⟩ := hf 3 (by decide)
   have h4 : f 4 = .int .i64 ((i : Int)) := hf 4 (by decide)
   clear hf hap
   clear zsz z40 z38
   subst ha0
   simp only [slotsTmil6, putAll, h0, h1, h2, h3, h4, Act.put, List.setIfInBounds_toArray, List.set_cons_zero, List.set_cons_succ]
   clear h0 h1 h2 h3 h4
   refine tl_store rfl (by kernel_rfl) 68 (.tmp 7) (.tmp 44) rfl b6_3 (encC ((B[i]))) _ rfl rfl _ hhb3 (by rw [encC_len]; kernel_rfl) (by simp only [encC_len]) (encC_ones _) ?_
   intro u7 hp3 hbl hot
   replace hS := hS.trans (hbl _ hgb3)
   clear hbl hot hhb3
   try simp only [Act.put]
   refine tl_nil ?_
   replace HO := Lib.hid (HO.out.keep hS)
   replace HX1 := Lib.hid (HX1.out.keepB hS)
   replace HX2 := Lib.hid (HX2.out.keepB hS)
   replace HX3 := Lib.hid (HX3.out.keepB hS)
   have HBW := Lib.hid HB.out.size
   replace HB := Lib.hid (HB.out.trans (hS.mono HB.out.size))
   clear hS
   have HGb6_3 : Hid (w.heap.size ≤ b6_3) := Lib.hid (Nat.le_trans HBW.out hgb3)
   have HX_b6_3 : Hid (Has u7 b6_3 68 (encC ((B[i])))) := Lib.hid hp3
   clear hp3 hgb3
   clear HBW
   go_upto_region 7 with fail
   have HST : Hid (Below u7.heap.size u7 u7.drew) := Lib.hid (Below.refl _ _).drew
   replace HO := Lib.hid (HO.out.keep HST.out)
   replace HX1 := Lib.hid (HX1.out.keepB HST.out)
   replace HX2 := Lib.hid (HX2.out.keepB HST.out)
   replace HX3 := Lib.hid (HX3.out.keepB HST.out)
   replace HX_b6_3 := Lib.hid (HX_b6_3.out.keepB HST.out)
   replace HB := Lib.hid (HB.out.trans (HST.out.mono HB.out.size))
   clear HST
   obtain ⟨gg, cap, hgv, hgb, hgl, hel⟩ := HO.out.el hlm
   have HGV := Lib.hid hgv
   have HGB9 := Lib.hid hgb
   have HEL := Lib.hid hel
   clear hgv hgb hgl hel
   refine wp_act (fun a0 ha0 => ?_)
   have zsz : a0.tmps.size = 58 := by rw [ha0]; rfl
   have z2 : a0.eval (.tmp 2) = .pointer (some ⟨g1, 0, none⟩) := by rw [ha0]; rfl
   have z6 : a0.eval (.tmp 6) = .int .i64 ((i : Int)) := by rw [ha0]; rfl
   have z7 : a0.eval (.tmp 7) = .pointer (some ⟨b6_3, 0, none⟩) := by rw [ha0]; rfl
   refine wrD [] slotsTmil7 waitTmil7 [Fct.val Flz 0 (.pointer (some ⟨g1, 1, none⟩)), Fct.val Flz 1 (v3_2), Fct.val Flz 2 (.int .i64 ((i : Int))), Fct.val Flz 3 (.pointer (some ⟨g1, 1, none⟩)), Fct.val Flz 4 (v3_2), Fct.val Flz 5 (.int .i64 ((i : Int))), Fct.val Flz 6 (.pointer (some ((⟨gg, 0, none⟩ : Addr).add (i * 65)))), Fct.val Flz 7 (aggC (((mixM A B i)[i]))), Fct.val Flz 8 (aggC ((B[i]))), Fct.val Flz 9 (aggC (minusC (((mixM A B i)[i])) ((B[i])))), Fct.val Flz 10 (.pointer (some ((⟨gg, 0, none⟩ : Addr).add (i * 65))))] (fun w' => Below u7.drew.heap.size u7.drew w') _ 11 1 chkTmil7 (by kernel_rfl) (by kernel_rfl) (by kernel_rfl) (by kernel_rfl) (by decide) (Below.refl _ _) ?_ ?_
   ·refine lt_s (lt_s (lt_s (lt_s (lt_s (lt_s (lt_s (lt_s (lt_s (lt_s (lt_s (lt_0) ?_) ?_) ?_) ?_) ?_) ?_) ?_) ?_) ?_) ?_) ?_
    ·intro f w1 hS hf aA hA
     have r2 : aA.eval (.tmp 2) = .pointer (some ⟨g1, 0, none⟩) := pO 2 hA (by kernel_rfl) z2
     exact fV rfl rfl (.pointer (some ⟨g1, 1, none⟩)) (fldT1 26 (Or.inl rfl) (.tmp 2) rfl g1 r2) hS uS
    ·intro f w1 hS hf aA hA
     have r45 : aA.eval (.tmp 45) = .pointer (some ⟨g1, 1, none⟩) := pA 45 0 hA sbTmil7 (by kernel_rfl) zsz rfl (hf 0 (by decide))
     exact fV rfl rfl (v3_2) (ex_load1 24 (.tmp 45) rfl ⟨g1, 1, none⟩ r45 (fun _ => by kernel_rfl) ((HX1.out.keepB hS).cellv rfl)) hS uS
    ·intro f w1 hS hf aA hA
     have r6 : aA.eval (.tmp 6) = .int .i64 ((i : Int)) := pO 6 hA (by kernel_rfl) z6
     exact fV rfl rfl (.int .i64 ((i : Int))) (ex_move (.tmp 6) rfl r6) hS uS
    ·intro f w1 hS hf aA hA
     have r2 : aA.eval (.tmp 2) = .pointer (some ⟨g1, 0, none⟩) := pO 2 hA (by kernel_rfl) z2
     exact fV rfl rfl (.pointer (some ⟨g1, 1, none⟩)) (fldT1 26 (Or.inl rfl) (.tmp 2) rfl g1 r2) hS uS
    ·intro f w1 hS hf aA hA
     have r48 : aA.eval (.tmp 48) = .pointer (some ⟨g1, 1, none⟩) := pA 48 3 hA sbTmil7 (by kernel_rfl) zsz rfl (hf 3 (by decide))
     exact fV rfl rfl (v3_2) (ex_load1 24 (.tmp 48) rfl ⟨g1, 1, none⟩ r48 (fun _ => by kernel_rfl) ((HX1.out.keepB hS).cellv rfl)) hS uS
    ·intro f w1 hS hf aA hA
     have r6 : aA.eval (.tmp 6) = .int .i64 ((i : Int)) := pO 6 hA (by kernel_rfl) z6
     exact fV rfl rfl (.int .i64 ((i : Int))) (ex_move (.tmp 6) rfl r6) hS uS
    ·intro f w1 hS hf aA hA
     have r49 : aA.eval (.tmp 49) = v3_2 := pA 49 4 hA sbTmil7 (by kernel_rfl) zsz rfl (hf 4 (by decide))
     have r50 : aA.eval (.tmp 50) = .int .i64 ((i : Int)) := pA 50 5 hA sbTmil7 (by kernel_rfl) zsz rfl (hf 5 (by decide))
     exact fV rfl rfl (.pointer (some ((⟨gg, 0, none⟩ : Addr).add (i * 65)))) (ex_indexS 24 68 (.tmp 49) (.tmp 50) rfl (⟨gg, 0, none⟩ : Addr) (mixM A B i).length cap i 65 (by kernel_rfl) (fun _ => by kernel_rfl) (Eq.trans r49 HGV.out) r50 hlm) hS uS
    ·intro f w1 hS hf aA hA
     have r51 : aA.eval (.tmp 51) = .pointer (some ((⟨gg, 0, none⟩ : Addr).add (i * 65))) := pA 51 6 hA sbTmil7 (by kernel_rfl) zsz rfl (hf 6 (by decide))
     exact fV rfl rfl (aggC (((mixM A B i)[i]))) (ex_loadR 68 (.tmp 51) rfl ((⟨gg, 0, none⟩ : Addr).add (i * 65)) r51 (fun _ => by kernel_rfl) (encC (((mixM A B i)[i]))) (by rw [encC_len]; kernel_rfl) (HEL.out w1 hS.block)) hS uS
    ·intro f w1 hS hf aA hA
     have r7 : aA.eval (.tmp 7) = .pointer (some ⟨b6_3, 0, none⟩) := pO 7 hA (by kernel_rfl) z7
     exact fV rfl rfl (aggC ((B[i]))) (ex_loadR 68 (.tmp 7) rfl ⟨b6_3, 0, none⟩ r7 (fun _ => by kernel_rfl) (encC ((B[i]))) (by rw [encC_len]; kernel_rfl) ((HX_b6_3.out.keepB hS).part (encC ((B[i]))) 0 (encC_all ((B[i]))))) hS uS
    ·intro f w1 hS hf aA hA
     have r52 : aA.eval (.tmp 52) = aggC (((mixM A B i)[i])) := pA 52 7 hA sbTmil7 (by kernel_rfl) zsz rfl (hf 7 (by decide))
     have r53 : aA.eval (.tmp 53) = aggC ((B[i])) := pA 53 8 hA sbTmil7 (by kernel_rfl) zsz rfl (hf 8 (by decide))
     exact fC rfl rfl 32 #[(.tmp 52), (.tmp 53)] _ rfl #[aggC (((mixM A B i)[i])), aggC ((B[i]))] (mp2 r52 r53) (fun w => by kernel_rfl) _ (minus_any (((mixM A B i)[i])) ((B[i])) w1) hS (fun _ _ h => uS.trans h)
    ·intro f w1 hS hf aA hA
     have r46 : aA.eval (.tmp 46) = v3_2 := pA 46 1 hA sbTmil7 (by kernel_rfl) zsz rfl (hf 1 (by decide))
     have r47 : aA.eval (.tmp 47) = .int .i64 ((i : Int)) := pA 47 2 hA sbTmil7 (by kernel_rfl) zsz rfl (hf 2 (by decide))
     exact fV rfl rfl (.pointer (some ((⟨gg, 0, none⟩ : Addr).add (i * 65)))) (ex_indexS 24 68 (.tmp 46) (.tmp 47) rfl (⟨gg, 0, none⟩ : Addr) (mixM A B i).length cap i 65 (by kernel_rfl) (fun _ => by kernel_rfl) (Eq.trans r46 HGV.out) r47 hlm) hS uS
   intro f u8 hS hf hap
   have h0 : f 0 = .pointer (some ⟨g1, 1, none⟩) := hf 0 (by decide)
   have h1 : f 1 = v3_2 := hf 1 (by decide)
   have h2 : f 2 = .int .i64 ((i : Int)) := hf 2 (by decide)
   have h3 : f 3 = .pointer (some ⟨g1, 1, none⟩) := hf 3 (by decide)
   have h4 : f 4 = v3_2 := hf 4 (by decide)
   have h5 : f 5 = .int .i64 ((i : Int)) := hf 5 (by decide)
   have h6 : f 6 = .pointer (some ((⟨gg, 0, none⟩ : Addr).add (i * 65))) := hf 6 (by decide)
   have h7 : f 7 = aggC (((mixM A B i)[i])) := hf 7 (by decide)
   have h8 : f 8 = aggC ((B[i])) := hf 8 (by decide)
   have h9 : f 9 = aggC (minusC (((mixM A B i)[i])) ((B[i]))) := hf 9 (by decide)
   have h10 : f 10 = .pointer (some ((⟨gg, 0, none⟩ : Addr).add (i * 65))) := hf 10 (by decide)
   clear hf hap
   clear zsz z2 z6 z7
   subst ha0
   simp only [slotsTmil7, putAll, h0, h1, h2, h3, h4, h5, h6, h7, h8, h9, h10, Act.put, List.setIfInBounds_toArray, List.set_cons_zero, List.set_cons_succ]
   clear h0 h1 h2 h3 h4 h5 h6 h7 h8 h9 h10
   have HO8 := Lib.hid (HO.out.keep hS)
   have HX18 := Lib.hid (HX1.out.keepB hS)
   have HX28 := Lib.hid (HX2.out.keepB hS)
   have HX38 := Lib.hid (HX3.out.keepB hS)
   have HB8 := Lib.hid (HB.out.trans (hS.mono HB.out.size))
   clear HO HX1 HX2 HX3 HB hS
   have HOB : Hid (Value.ownBlock v3_2 = some gg) := Lib.hid (by rw [HGV.out]; rfl)
   refine tl_step rfl rfl (fun K hK => wp_store_ce 68 (by kernel_rfl) (.tmp 55) (.tmp 54) rfl u1.heap.size 68 v3_2 _ HO8.out gg cap i HGV.out hlm rfl _ rfl (fun w9 hR hbl hgr => hK _ _ ?_))
   have HO9 := Lib.hid hR
   have HG9 : Hid (Grw u8 w9 (some gg)) := Lib.hid hgr
   have HB9 := Lib.hid (HB8.out.trans (hbl _ (Nat.le_trans HBB.out HGB9.out)))
   clear hR hbl hgr
   refine tl_nilN ?_
   try simp only [Act.put]
   go_wp2_with fail
   go_roundw
   case rel =>
    have hne : ∀ g, Has u8 g 26 [.int .u64 (s : Int), v3_2] ∨ Has u8 g 26 [.int .u64 (t : Int), v] ∨ Has u8 g 26 [.int .u64 0, .slice none 0 0] → ∀ k, some gg = some k → k ≠ g := fun g hg k hk => by
     obtain rfl := Option.some.inj hk
     rcases hg with hg | hg | hg <;> exact HO8.out.ne hg (by decide) _ HOB.out
    exact ⟨i + 1, by omega, by go_num, by rw [← HST.out, ← HAT.out]; exact HO9.out, HG9.out.has HX18.out (hne _ (.inl HX18.out)), HG9.out.has HX28.out (hne _ (.inr (.inl HX28.out))), HG9.out.has HX38.out (hne _ (.inr (.inr HX38.out))), HB9.out⟩
   case measure => simp [intOf]; omega
  ·obtain rfl : i = B.length := by omega
   have k3 : ¬ (B.length : Int) < (B.length : Int) := by omega
   rw [mixM_all hAB] at HO
   go_upto_region 9 with fail
   refine wp_act (fun a0 ha0 => ?_)
   have zsz : a0.tmps.size = 58 := by rw [ha0]; rfl
   have z2 : a0.eval (.tmp 2) = .pointer (some ⟨g1, 0, none⟩) := by rw [ha0]; rfl
   refine wrO [] slotsTmie9 waitTmie9 [Fct.val Flz 0 (.agg #[.int .u64 (s : Int), v3_2])] (fun w' => Below wr.heap.size wr w') _ 1 2 chkTmie9 (by kernel_rfl) (by kernel_rfl) (by kernel_rfl) (by decide) (Below.refl _ _) ?_ ?_
   ·refine lt_s (lt_0) ?_
    ·intro f w1 hS hf aA hA
     have r2 : aA.eval (.tmp 2) = .pointer (some ⟨g1, 0, none⟩) := pO 2 hA (by kernel_rfl) z2
     exact fV rfl rfl (.agg #[.int .u64 (s : Int), v3_2]) (ex_loadR 26 (.tmp 2) rfl ⟨g1, 0, none⟩ r2 (fun _ => by kernel_rfl) [.int .u64 (s : Int), v3_2] (by kernel_rfl) ((HX1.out.keepB hS).part [.int .u64 (s : Int), v3_2] 0 (fun j u hu => by rw [Nat.zero_add]; exact hu))) hS uS
   intro f u10 hS hf hap
   have h0 : f 0 = .agg #[.int .u64 (s : Int), v3_2] := hf 0 (by decide)
   clear hf hap
   clear zsz z2
   subst ha0
   simp only [slotsTmie9, putAll, h0, Act.put, List.setIfInBounds_toArray, List.set_cons_zero, List.set_cons_succ]
   clear h0
   have hBS := HB.out.trans (hS.mono HB.out.size)
   replace HO := Lib.hid (HO.out.keep hS)
   replace HX1 := Lib.hid (HX1.out.keepB hS)
   replace HX2 := Lib.hid (HX2.out.keepB hS)
   replace HX3 := Lib.hid (HX3.out.keepB hS)
   clear hS
   refine tl_store rfl (by kernel_rfl) 26 (.tmp 4) (.tmp 57) rfl g3 ([.int .u64 (s : Int), v3_2]) _ rfl rfl _ HX3.out (by kernel_rfl) rfl (tb_ones _ HO.out.one) ?_
   intro u11 hp hbl hot
   replace HO := Lib.hid (HO.out.hotb HX3.out ⟨_, _, _, rfl⟩ (by decide) (hbl 0 (Nat.zero_le _)).size hot)
   replace HX1 : Hid (Has u11 g1 26 ([.int .u64 (s : Int), v3_2])) := Lib.hid ((hot _ (HNE_g1_g3.out)).trans HX1.out)
   replace HX2 : Hid (Has u11 g2 26 ([.int .u64 (t : Int), v])) := Lib.hid ((hot _ (HNE_g2_g3.out)).trans HX2.out)
   replace HX3 : Hid (Has u11 g3 26 ([.int .u64 (s : Int), v3_2])) := Lib.hid hp
   replace hBS := hBS.trans (hbl _ HGg3.out)
   clear hp hbl hot
   try simp only [Act.put]
   refine tl_pure rfl (by kernel_rfl) (.int .i64 0) (ex_assign _ rfl rfl) ?_
   try simp only [Act.put, List.setIfInBounds_toArray, List.set_cons_zero, List.set_cons_succ]
   refine tl_nil ?_
   replace HB := Lib.hid hBS
   clear hBS
   go_wp2_with fail
   (try simp only [Exit.inBlock, Exit.then])
   have HN : Hid (minusT s A t B = (s, List.zipWith minusC A B, 0)) := Lib.hid (by rw [HOF.out, if_pos (okM_of s t A B HGA.out HGB.out HS3.out hAB)])
   refine bodyPost_ret (v := .tuple #[.agg #[.int .u64 (s : Int), v3_2], .int .i64 0]) ?_ rfl ⟨⟨_, rfl, v3_2, by rw [HN.out], by rw [HN.out]; exact HO.out.cs⟩, HB.out⟩
   exact results_twoT rfl _ _ g3 26 _ (0, 0) rfl HX3.out _ rfl Tryd.underlying26 (by kernel_rfl)
theorem minusT_any (s : Nat) (u : Value) (A : List Ce) (t : Nat) (v : Value) (B : List Ce) (w : World) (hst : s = t) (hq : A.length = B.length) (hM : A.length ≤ 1000000) (hA : Cs w u A) (hV : Cs w v B) : Calls Tryd.prog 10 #[.agg #[.int .u64 (s : Int), u], .agg #[.int .u64 (t : Int), v]] w fun e w' => (∃ v, e = .returned v ∧ ∃ x, v = .tuple #[.agg #[.int .u64 ((minusT s A t B).1 : Int), x], .int .i64 (minusT s A t B).2.2] ∧ Cs w' x (minusT s A t B).2.1) ∧ Below w.heap.size w w' := minusT_b s u A t v B w w (Below.refl _ _) hst hq hM hA hV
end Go.Proofs.YtepeloenijlnhaaDoor
/- Contract: the document's own Minus. Condition: at most 10^5 cells. -/
namespace Go.Proofs.YtepeloenijlnhaaDoor
open Go.RowKit
theorem zipM_snoc {A B : List Ce} (h : A.length = B.length) (k : Nat) (hk : k < A.length) : List.zipWith minusC (A.take (k + 1)) (B.take (k + 1)) = List.zipWith minusC (A.take k) (B.take k) ++ [minusC A[k] (B[k]'(by omega))] := by
 rw [List.take_succ_eq_append_getElem hk, List.take_succ_eq_append_getElem (show k < B.length by omega), List.zipWith_append (by simp; omega)]
 rfl
def waitTrma1 (i : Nat) : List Nat := ([[], [0], [1], [2], [3], [4], [5], [5], [5], [5], [5], [5], [5], [5, 12], [13], [14], [14], [14], [14], [14], [14, 19]] : List (List Nat)).getD i []
def slotsTrma1 : List (Nat × Nat) := [(8, 0), (9, 1), (10, 2), (11, 3), (12, 4), (13, 5), (14, 6), (15, 7), (16, 8), (17, 9), (18, 10), (19, 11), (20, 12), (21, 13), (22, 14), (23, 15), (24, 16), (25, 17), (26, 18), (27, 19), (28, 20)]
theorem sbTrma1 : slotsB slotsTrma1 = true := by kernel_rfl
theorem chkTrma1 : flwO slotsTrma1 waitTrma1 21 (regOf Tryd.f21.body 1) = true := by kernel_rfl
def waitTrma2 (i : Nat) : List Nat := ([[], [0], [0, 1]] : List (List Nat)).getD i []
def slotsTrma2 : List (Nat × Nat) := [(29, 0), (5, 2)]
theorem sbTrma2 : slotsB slotsTrma2 = true := by kernel_rfl
theorem chkTrma2 : flwO slotsTrma2 waitTrma2 1 (regOf Tryd.f21.body 2) = true := by kernel_rfl
def waitTrmg1 (i : Nat) : List Nat := ([[], [0], [1], [2], [3], [4], [5], [5, 6], [5, 7], [5], [5, 9], [5, 10], [5, 8, 11], [5, 12], [13], [14], [14, 15], [14], [14, 17], [14, 16, 18], [14, 19]] : List (List Nat)).getD i []
def slotsTrmg1 : List (Nat × Nat) := [(8, 0), (9, 1), (10, 2), (11, 3), (12, 4), (13, 5), (14, 6), (15, 7), (16, 8), (17, 9), (18, 10), (19, 11), (20, 12), (21, 13), (22, 14), (23, 15), (24, 16), (25, 17), (26, 18), (27, 19), (28, 20)]
theorem sbTrmg1 : slotsB slotsTrmg1 = true := by kernel_rfl
theorem chkTrmg1 : flwO slotsTrmg1 waitTrmg1 21 (regOf Tryd.f21.body 1) = true := by kernel_rfl
def waitTrmg3 (i : Nat) : List Nat := ([[], [0], [1], [], [0, 1, 2, 3]] : List (List Nat)).getD i []
def slotsTrmg3 : List (Nat × Nat) := [(30, 0), (31, 1), (32, 2), (6, 3)]
theorem sbTrmg3 : slotsB slotsTrmg3 = true := by kernel_rfl
theorem chkTrmg3 : flwO slotsTrmg3 waitTrmg3 4 (regOf Tryd.f21.body 3) = true := by kernel_rfl
def waitTrml5 (i : Nat) : List Nat := ([[], [], [1], [2], [0, 3]] : List (List Nat)).getD i []
def slotsTrml5 : List (Nat × Nat) := [(33, 0), (34, 1), (35, 2), (36, 3), (37, 4)]
theorem sbTrml5 : slotsB slotsTrml5 = true := by kernel_rfl
theorem chkTrml5 : flwO slotsTrml5 waitTrml5 5 (regOf Tryd.f21.body 5) = true := by kernel_rfl
def waitTrm7 (i : Nat) : List Nat := ([[], [0], [], [2], [], [2, 3, 4], [2, 3, 4, 5], [], [7], [], [7, 8, 9], [7, 8, 9, 10], [2, 3, 4, 5, 6, 7, 8, 9, 10, 11], [2, 3, 4, 5, 6, 7, 8, 9, 10, 11, 12], [0, 1, 2, 3, 4, 5, 6, 7, 8, 9, 10, 11, 12, 13], [0, 1, 2, 3, 4, 5, 6, 7, 8, 9, 10, 11, 12, 13, 14], [0, 1, 2, 3, 4, 5, 6, 7, 8, 9, 10, 11, 12, 13, 14, 15]] : List (List Nat)).getD i []
def slotsTrm7 : List (Nat × Nat) := [(40, 0), (41, 1), (42, 2), (43, 3), (44, 4), (45, 5), (46, 6), (47, 7), (48, 8), (49, 9), (50, 10), (51, 11), (52, 12), (53, 13), (54, 14), (55, 15)]
theorem sbTrm7 : slotsB slotsTrm7 = true := by kernel_rfl
theorem chkTrm7 : flwB slotsTrm7 waitTrm7 14 (regOf Tryd.f21.body 7) = true := by kernel_rfl
def waitTrme5 (i : Nat) : List Nat := ([[], [], [1], [2], [0, 3]] : List (List Nat)).getD i []
def slotsTrme5 : List (Nat × Nat) := [(33, 0), (34, 1), (35, 2), (36, 3), (37, 4)]
theorem sbTrme5 : slotsB slotsTrme5 = true := by kernel_rfl
theorem chkTrme5 : flwO slotsTrme5 waitTrme5 5 (regOf Tryd.f21.body 5) = true := by kernel_rfl
def waitTrme8 (i : Nat) : List Nat := ([[], [0], [0, 1]] : List (List Nat)).getD i []
def slotsTrme8 : List (Nat × Nat) := [(56, 0), (5, 2)]
theorem sbTrme8 : slotsB slotsTrme8 = true := by kernel_rfl
theorem chkTrme8 : flwO slotsTrme8 waitTrme8 1 (regOf Tryd.f21.body 8) = true := by kernel_rfl
set_option maxHeartbeats 16000000 in
set_option maxRecDepth 100000 in
theorem rminusT_b (s : Nat) (u : Value) (A : List Ce) (t : Nat) (v : Value) (B : List Ce) (w w0 : World) (hB : Below w.heap.size w w0) (hst : s = t) (hq : A.length = B.length) (hM : A.length ≤ 100000) (hA : Cs w u A) (hV : Cs w v B) : Calls Tryd.prog 21 #[.agg #[.int .u64 (s : Int), u], .agg #[.int .u64 (t : Int), v]] w0 fun e w' => (∃ v, e = .returned v ∧ ∃ x, v = .tuple #[.agg #[.int .u64 ((minusT s A t B).1 : Int), x], .int .i64 (minusT s A t B).2.2] ∧ Cs w' x (minusT s A t B).2.1) ∧ Below w.heap.size w w' := by
 have HOF : Hid (minusT s A t B = if okM s t A B = true then (s, List.zipWith minusC A B, 0) else (0, [], 1)) := Lib.hid rfl
 go_enter Tryd.func21, Tryd.ntmps21
 have HB := Lib.hid hB
 clear hB
 have HA := Lib.hid hA
 have HV := Lib.hid hV
 clear hA hV
 go_upto_region 0 with fail
 refine wp_region_lit ?_
 try simp only [Act.put, List.setIfInBounds_toArray, List.set_cons_zero, List.set_cons_succ]
 refine lp_step rfl (fun K hK => wp_box_row 37 (.tmp 0) rfl (.agg #[.int .u64 (s : Int), u]) rfl (hK _ _ ?_))
 try simp only [Act.put, List.setIfInBounds_toArray, List.set_cons_zero, List.set_cons_succ]
 show wpList _ _ _ _ _ (w0.alloc (.cells (([.int .u64 (s : Int), u] : List Value)).toArray 37))
 have HST : Hid (Below w0.heap.size w0 (w0.alloc (.cells (([.int .u64 (s : Int), u] : List Value)).toArray 37))) := Lib.hid ((Below.refl _ _).alloc (Nat.le_refl _) _)
 have HX1 : Hid (Has (w0.alloc (.cells (([.int .u64 (s : Int), u] : List Value)).toArray 37)) w0.heap.size 37 ([.int .u64 (s : Int), u])) := Lib.hid (Has.made' _ _ _ _ rfl)
 have HGg1 : Hid (w.heap.size ≤ w0.heap.size) := Lib.hid HB.out.size
 replace HB := Lib.hid (HB.out.trans (HST.out.mono HB.out.size))
 clear HST
 generalize w0.alloc (.cells (([.int .u64 (s : Int), u] : List Value)).toArray 37) = w1 at *
 generalize w0.heap.size = g1 at *
 refine lp_step rfl (fun K hK => wp_box_row 37 (.tmp 1) rfl (.agg #[.int .u64 (t : Int), v]) rfl (hK _ _ ?_))
 try simp only [Act.put, List.setIfInBounds_toArray, List.set_cons_zero, List.set_cons_succ]
 show wpList _ _ _ _ _ (w1.alloc (.cells (([.int .u64 (t : Int), v] : List Value)).toArray 37))
 have HST : Hid (Below w1.heap.size w1 (w1.alloc (.cells (([.int .u64 (t : Int), v] : List Value)).toArray 37))) := Lib.hid ((Below.refl _ _).alloc (Nat.le_refl _) _)
 have HLT_g1_g2 : Hid (g1 < w1.heap.size) := Lib.hid HX1.out.lt
 have HNE_g1_g2 : Hid (g1 ≠ w1.heap.size) := Lib.hid (Nat.ne_of_lt HX1.out.lt)
 have HX2 : Hid (Has (w1.alloc (.cells (([.int .u64 (t : Int), v] : List Value)).toArray 37)) w1.heap.size 37 ([.int .u64 (t : Int), v])) := Lib.hid (Has.made' _ _ _ _ rfl)
 replace HX1 := Lib.hid (HX1.out.keepB HST.out)
 have HGg2 : Hid (w.heap.size ≤ w1.heap.size) := Lib.hid HB.out.size
 replace HB := Lib.hid (HB.out.trans (HST.out.mono HB.out.size))
 clear HST
 generalize w1.alloc (.cells (([.int .u64 (t : Int), v] : List Value)).toArray 37) = w2 at *
 generalize w1.heap.size = g2 at *
 refine lp_step rfl (fun K hK => wp_alloc_row 37 rfl (.agg #[.int .u64 0, .slice none 0 0]) (fun w => by kernel_rfl) (hK _ _ ?_))
 try simp only [Act.put, List.setIfInBounds_toArray, List.set_cons_zero, List.set_cons_succ]
 show wpList _ _ _ _ _ (w2.alloc (.cells (([.int .u64 0, .slice none 0 0] : List Value)).toArray 37))
 have HST : Hid (Below w2.heap.size w2 (w2.alloc (.cells (([.int .u64 0, .slice none 0 0] : List Value)).toArray 37))) := Lib.hid ((Below.refl _ _).alloc (Nat.le_refl _) _)
 have HLT_g1_g3 : Hid (g1 < w2.heap.size) := Lib.hid HX1.out.lt
 have HLT_g2_g3 : Hid (g2 < w2.heap.size) := Lib.hid HX2.out.lt
 have HNE_g1_g3 : Hid (g1 ≠ w2.heap.size) := Lib.hid (Nat.ne_of_lt HX1.out.lt)
 have HNE_g2_g3 : Hid (g2 ≠ w2.heap.size) := Lib.hid (Nat.ne_of_lt HX2.out.lt)
 have HX3 : Hid (Has (w2.alloc (.cells (([.int .u64 0, .slice none 0 0] : List Value)).toArray 37)) w2.heap.size 37 ([.int .u64 0, .slice none 0 0])) := Lib.hid (Has.made' _ _ _ _ rfl)
 replace HX1 := Lib.hid (HX1.out.keepB HST.out)
 replace HX2 := Lib.hid (HX2.out.keepB HST.out)
 have HGg3 : Hid (w.heap.size ≤ w2.heap.size) := Lib.hid HB.out.size
 replace HB := Lib.hid (HB.out.trans (HST.out.mono HB.out.size))
 clear HST
 generalize w2.alloc (.cells (([.int .u64 0, .slice none 0 0] : List Value)).toArray 37) = w3 at *
 generalize w2.heap.size = g3 at *
 refine lp_pure (v := .int .i64 0) rfl (ex_assign _ rfl rfl) ?_
 try simp only [Act.put, List.setIfInBounds_toArray, List.set_cons_zero, List.set_cons_succ]
 refine wpList_nil ?_
 obtain ⟨ga, hga⟩ : ∃ g, goodN (A.length : Int) = g := ⟨_, rfl⟩
 have HGA := Lib.hid hga
 clear hga
 cases ga
 ·go_upto_region 1 with fail
  refine wp_act (fun a0 ha0 => ?_)
  have zsz : a0.tmps.size = 57 := by rw [ha0]; rfl
  have z2 : a0.eval (.tmp 2) = .pointer (some ⟨g1, 0, none⟩) := by rw [ha0]; rfl
  refine wrO [] slotsTrma1 waitTrma1 [Fct.val Flz 0 (.pointer (some ⟨g1, 1, none⟩)), Fct.val Flz 1 (u), Fct.val Flz 2 (.int .i64 (((A).length : Int))), Fct.val Flz 3 (.bool false), Fct.val Flz 4 (.bool true), Fct.val Flz 5 (.bool true), Fct.val Flz 6 (undef), Fct.val Flz 7 (undef), Fct.val Flz 8 (undef), Fct.val Flz 9 (undef), Fct.val Flz 10 (undef), Fct.val Flz 11 (undef), Fct.val Flz 12 (undef), Fct.val Flz 13 (.bool true), Fct.val Flz 14 (.bool true), Fct.val Flz 15 (undef), Fct.val Flz 16 (undef), Fct.val Flz 17 (undef), Fct.val Flz 18 (undef), Fct.val Flz 19 (undef), Fct.val Flz 20 (.bool true)] (fun w' => Below w3.heap.size w3 w') _ 21 0 chkTrma1 (by kernel_rfl) (by kernel_rfl) (by kernel_rfl) (by decide) (Below.refl _ _) ?_ ?_
  ·refine lt_s (lt_s (lt_s (lt_s (lt_s (lt_s (lt_s (lt_s (lt_s (lt_s (lt_s (lt_s (lt_s (lt_s (lt_s (lt_s (lt_s (lt_s (lt_s (lt_s (lt_s (lt_0) ?_) ?_) ?_) ?_) ?_) ?_) ?_) ?_) ?_) ?_) ?_) ?_) ?_) ?_) ?_) ?_) ?_) ?_) ?_) ?_) ?_
   ·intro f w1 hS hf aA hA
    have r2 : aA.eval (.tmp 2) = .pointer (some ⟨g1, 0, none⟩) := pO 2 hA (by kernel_rfl) z2
    exact fV rfl rfl (.pointer (some ⟨g1, 1, none⟩)) (fldT1 37 (Or.inr rfl) (.tmp 2) rfl g1 r2) hS uS
   ·intro f w1 hS hf aA hA
    have r8 : aA.eval (.tmp 8) = .pointer (some ⟨g1, 1, none⟩) := pA 8 0 hA sbTrma1 (by kernel_rfl) zsz rfl (hf 0 (by decide))
    exact fV rfl rfl (u) (ex_load1 35 (.tmp 8) rfl ⟨g1, 1, none⟩ r8 (fun _ => by kernel_rfl) ((HX1.out.keepB hS).cellv rfl)) hS uS
   ·intro f w1 hS hf aA hA
    have r9 : aA.eval (.tmp 9) = u := pA 9 1 hA sbTrma1 (by kernel_rfl) zsz rfl (hf 1 (by decide))
    obtain ⟨q9, c9, hv9, _⟩ := (HA.out.keep (HB.out.trans (hS.mono HB.out.size)))
    exact fV rfl rfl (.int .i64 (((A).length : Int))) (ex_len 35 73 (.tmp 9) rfl (by kernel_rfl) q9 (A).length c9 (r9.trans hv9)) hS uS
   ·intro f w1 hS hf aA hA
    have r10 : aA.eval (.tmp 10) = .int .i64 (((A).length : Int)) := pA 10 2 hA sbTrma1 (by kernel_rfl) zsz rfl (hf 2 (by decide))
    exact fC rfl rfl 41 #[(.tmp 10)] _ rfl #[.int .i64 (((A).length : Int))] (mp1 r10) (fun w => by kernel_rfl) _ (as_any (goodR14_any (((A).length : Int)) w1) (congrArg Value.bool HGA.out)) hS (fun _ _ h => uS.trans h)
   ·intro f w1 hS hf aA hA
    have r11 : aA.eval (.tmp 11) = .bool false := pA 11 3 hA sbTrma1 (by kernel_rfl) zsz rfl (hf 3 (by decide))
    exact fV rfl rfl (.bool true) (ex_not _ (.tmp 11) rfl r11) hS uS
   ·intro f w1 hS hf aA hA
    have r12 : aA.eval (.tmp 12) = .bool true := pA 12 4 hA sbTrma1 (by kernel_rfl) zsz rfl (hf 4 (by decide))
    exact fV rfl rfl (.bool true) (ex_move (.tmp 12) rfl r12) hS uS
   ·intro f w1 hS hf aA hA
    have t13 : aA.tmps[13]? = some (.bool true) := pG 13 5 hA sbTrma1 (by kernel_rfl) zsz rfl (hf 5 (by decide))
    exact flw_skip rfl ((wanted_of rfl 13 rfl t13).trans rfl) hS (Flz.refl _) uS
   ·intro f w1 hS hf aA hA
    have t13 : aA.tmps[13]? = some (.bool true) := pG 13 5 hA sbTrma1 (by kernel_rfl) zsz rfl (hf 5 (by decide))
    exact flw_skip rfl ((wanted_of rfl 13 rfl t13).trans rfl) hS (Flz.refl _) uS
   ·intro f w1 hS hf aA hA
    have t13 : aA.tmps[13]? = some (.bool true) := pG 13 5 hA sbTrma1 (by kernel_rfl) zsz rfl (hf 5 (by decide))
    exact flw_skip rfl ((wanted_of rfl 13 rfl t13).trans rfl) hS (Flz.refl _) uS
   ·intro f w1 hS hf aA hA
    have t13 : aA.tmps[13]? = some (.bool true) := pG 13 5 hA sbTrma1 (by kernel_rfl) zsz rfl (hf 5 (by decide))
    exact flw_skip rfl ((wanted_of rfl 13 rfl t13).trans rfl) hS (Flz.refl _) uS
   ·intro f w1 hS hf aA hA
    have t13 : aA.tmps[13]? = some (.bool true) := pG 13 5 hA sbTrma1 (by kernel_rfl) zsz rfl (hf 5 (by decide))
    exact flw_skip rfl ((wanted_of rfl 13 rfl t13).trans rfl) hS (Flz.refl _) uS
   ·intro f w1 hS hf aA hA
    have t13 : aA.tmps[13]? = some (.bool true) := pG 13 5 hA sbTrma1 (by kernel_rfl) zsz rfl (hf 5 (by decide))
    exact flw_skip rfl ((wanted_of rfl 13 rfl t13).trans rfl) hS (Flz.refl _) uS
   ·intro f w1 hS hf aA hA
    have t13 : aA.tmps[13]? = some (.bool true) := pG 13 5 hA sbTrma1 (by kernel_rfl) zsz rfl (hf 5 (by decide))
    exact flw_skip rfl ((wanted_of rfl 13 rfl t13).trans rfl) hS (Flz.refl _) uS
   ·intro f w1 hS hf aA hA
    have r13 : aA.eval (.tmp 13) = .bool true := pA 13 5 hA sbTrma1 (by kernel_rfl) zsz rfl (hf 5 (by decide))
    exact fV rfl rfl (.bool true) (ex_pick (.tmp 13) _ (.tmp 20) rfl true r13 ((if_pos rfl).trans rfl)) hS uS
   ·intro f w1 hS hf aA hA
    have r21 : aA.eval (.tmp 21) = .bool true := pA 21 13 hA sbTrma1 (by kernel_rfl) zsz rfl (hf 13 (by decide))
    exact fV rfl rfl (.bool true) (ex_move (.tmp 21) rfl r21) hS uS
   ·intro f w1 hS hf aA hA
    have t22 : aA.tmps[22]? = some (.bool true) := pG 22 14 hA sbTrma1 (by kernel_rfl) zsz rfl (hf 14 (by decide))
    exact flw_skip rfl ((wanted_of rfl 22 rfl t22).trans rfl) hS (Flz.refl _) uS
   ·intro f w1 hS hf aA hA
    have t22 : aA.tmps[22]? = some (.bool true) := pG 22 14 hA sbTrma1 (by kernel_rfl) zsz rfl (hf 14 (by decide))
    exact flw_skip rfl ((wanted_of rfl 22 rfl t22).trans rfl) hS (Flz.refl _) uS
   ·intro f w1 hS hf aA hA
    have t22 : aA.tmps[22]? = some (.bool true) := pG 22 14 hA sbTrma1 (by kernel_rfl) zsz rfl (hf 14 (by decide))
    exact flw_skip rfl ((wanted_of rfl 22 rfl t22).trans rfl) hS (Flz.refl _) uS
   ·intro f w1 hS hf aA hA
    have t22 : aA.tmps[22]? = some (.bool true) := pG 22 14 hA sbTrma1 (by kernel_rfl) zsz rfl (hf 14 (by decide))
    exact flw_skip rfl ((wanted_of rfl 22 rfl t22).trans rfl) hS (Flz.refl _) uS
   ·intro f w1 hS hf aA hA
    have t22 : aA.tmps[22]? = some (.bool true) := pG 22 14 hA sbTrma1 (by kernel_rfl) zsz rfl (hf 14 (by decide))
    exact flw_skip rfl ((wanted_of rfl 22 rfl t22).trans rfl) hS (Flz.refl _) uS
   ·intro f w1 hS hf aA hA
    have r22 : aA.eval (.tmp 22) = .bool true := pA 22 14 hA sbTrma1 (by kernel_rfl) zsz rfl (hf 14 (by decide))
    exact fV rfl rfl (.bool true) (ex_pick (.tmp 22) _ (.tmp 27) rfl true r22 ((if_pos rfl).trans rfl)) hS uS
  intro f u1 hS hf hap
  have h0 : f 0 = .pointer (some ⟨g1, 1, none⟩) := hf 0 (by decide)
  have h1 : f 1 = u := hf 1 (by decide)
  have h2 : f 2 = .int .i64 (((A).length : Int)) := hf 2 (by decide)
  have h3 : f 3 = .bool false := hf 3 (by decide)
  have h4 : f 4 = .bool true := hf 4 (by decide)
  have h5 : f 5 = .bool true := hf 5 (by decide)
  have h6 : f 6 = undef := hf 6 (by decide)
  have h7 : f 7 = undef := hf 7 (by decide)
  have h8 : f 8 = undef := hf 8 (by decide)
  have h9 : f 9 = undef := hf 9 (by decide)
  have h10 : f 10 = undef := hf 10 (by decide)
  have h11 : f 11 = undef := hf 11 (by decide)
  have h12 : f 12 = undef := hf 12 (by decide)
  have h13 : f 13 = .bool true := hf 13 (by decide)
  have h14 : f 14 = .bool true := hf 14 (by decide)
  have h15 : f 15 = undef := hf 15 (by decide)
  have h16 : f 16 = undef := hf 16 (by decide)
  have h17 : f 17 = undef := hf 17 (by decide)
  have h18 : f 18 = undef := hf 18 (by decide)
  have h19 : f 19 = undef := hf 19 (by decide)
  have h20 : f 20 = .bool true := hf 20 (by decide)
  clear hf hap
  clear zsz z2
  subst ha0
  simp only [slotsTrma1, putAll, h0, h1, h2, h3, h4, h5, h6, h7, h8, h9, h10, h11, h12, h13, h14, h15, h16, h17, h18, h19, h20, Act.put, List.setIfInBounds_toArray, List.set_cons_zero, List.set_cons_succ]
  clear h0 h1 h2 h3 h4 h5 h6 h7 h8 h9 h10 h11 h12 h13 h14 h15 h16 h17 h18 h19 h20
  refine tl_nil ?_
  replace HX1 := Lib.hid (HX1.out.keepB hS)
  replace HX2 := Lib.hid (HX2.out.keepB hS)
  replace HX3 := Lib.hid (HX3.out.keepB hS)
  replace HB := Lib.hid (HB.out.trans (hS.mono HB.out.size))
  clear hS
  go_upto_region 2 with fail
  refine wp_act (fun a0 ha0 => ?_)
  have zsz : a0.tmps.size = 57 := by rw [ha0]; rfl
  refine wrO [] slotsTrma2 waitTrma2 [Fct.val Flz 0 (.agg #[.int .u64 0, .slice none 0 0])] (fun w' => Below u1.heap.size u1 w') _ 1 2 chkTrma2 (by kernel_rfl) (by kernel_rfl) (by kernel_rfl) (by decide) (Below.refl _ _) ?_ ?_
  ·refine lt_s (lt_0) ?_
   ·intro f w1 hS hf aA hA
    exact fV rfl rfl (.agg #[.int .u64 0, .slice none 0 0]) (ex_build 37 _ rfl #[.int .u64 0, .slice none 0 0] [] (by kernel_rfl) builtQ0) hS uS
  intro f u2 hS hf hap
  have h0 : f 0 = .agg #[.int .u64 0, .slice none 0 0] := hf 0 (by decide)
  clear hf hap
  clear zsz
  subst ha0
  simp only [slotsTrma2, putAll, h0, Act.put, List.setIfInBounds_toArray, List.set_cons_zero, List.set_cons_succ]
  clear h0
  have hBS := HB.out.trans (hS.mono HB.out.size)
  replace HX1 := Lib.hid (HX1.out.keepB hS)
  replace HX2 := Lib.hid (HX2.out.keepB hS)
  replace HX3 := Lib.hid (HX3.out.keepB hS)
  clear hS
  refine tl_store rfl (by kernel_rfl) 37 (.tmp 4) (.tmp 29) rfl g3 ([.int .u64 0, .slice none 0 0]) _ rfl rfl _ HX3.out (by kernel_rfl) rfl (tb_ones _ rfl) ?_
  intro u3 hp hbl hot
  replace HX1 : Hid (Has u3 g1 37 ([.int .u64 (s : Int), u])) := Lib.hid ((hot _ (HNE_g1_g3.out)).trans HX1.out)
  replace HX2 : Hid (Has u3 g2 37 ([.int .u64 (t : Int), v])) := Lib.hid ((hot _ (HNE_g2_g3.out)).trans HX2.out)
  replace HX3 : Hid (Has u3 g3 37 ([.int .u64 0, .slice none 0 0])) := Lib.hid hp
  replace hBS := hBS.trans (hbl _ HGg3.out)
  clear hp hbl hot
  try simp only [Act.put]
  refine tl_pure rfl (by kernel_rfl) (.int .i64 1) (ex_assign _ rfl rfl) ?_
  try simp only [Act.put, List.setIfInBounds_toArray, List.set_cons_zero, List.set_cons_succ]
  refine tl_nil ?_
  replace HB := Lib.hid hBS
  clear hBS
  go_wp2_with fail
  (try simp only [Exit.inBlock, Exit.then])
  have HN : Hid (minusT s A t B = (0, [], 1)) := Lib.hid (by rw [HOF.out]; unfold okM; rw [HGA.out]; rfl)
  refine bodyPost_ret (v := .tuple #[.agg #[.int .u64 0, .slice none 0 0], .int .i64 1]) ?_ rfl ⟨⟨_, rfl, .slice none 0 0, by rw [HN.out]; rfl, by rw [HN.out]; exact Cs.nil _⟩, HB.out⟩
  exact results_twoT rfl _ _ g3 37 _ (0, 0) rfl HX3.out _ rfl Tryd.underlying37 (by kernel_rfl)
 have HAB : Hid (A.length = B.length) := Lib.hid hq
 have HS3 : Hid (s = t) := Lib.hid hst
 have HNS : Hid (((s : Int) != (t : Int)) = false) := Lib.hid (by rw [hst]; simp)
 have HNL : Hid (((A.length : Int) != (B.length : Int)) = false) := Lib.hid (by rw [hq]; simp)
 clear hst hq
 go_upto_region 1 with fail
 refine wp_act (fun a0 ha0 => ?_)
 have zsz : a0.tmps.size = 57 := by rw [ha0]; rfl
 have z2 : a0.eval (.tmp 2) = .pointer (some ⟨g1, 0, none⟩) := by rw [ha0]; rfl
 have z3 : a0.eval (.tmp 3) = .pointer (some ⟨g2, 0, none⟩) := by rw [ha0]; rfl
 refine wrO [] slotsTrmg1 waitTrmg1 [Fct.val Flz 0 (.pointer (some ⟨g1, 1, none⟩)), Fct.val Flz 1 (u), Fct.val Flz 2 (.int .i64 (((A).length : Int))), Fct.val Flz 3 (.bool true), Fct.val Flz 4 (.bool false), Fct.val Flz 5 (.bool false), Fct.val Flz 6 (.pointer (some ⟨g1, 1, none⟩)), Fct.val Flz 7 (u), Fct.val Flz 8 (.int .i64 (((A).length : Int))), Fct.val Flz 9 (.pointer (some ⟨g2, 1, none⟩)), Fct.val Flz 10 (v), Fct.val Flz 11 (.int .i64 (((B).length : Int))), Fct.val Flz 12 (.bool false), Fct.val Flz 13 (.bool false), Fct.val Flz 14 (.bool false), Fct.val Flz 15 (.pointer (some ⟨g1, 0, none⟩)), Fct.val Flz 16 (.int .u64 (s : Int)), Fct.val Flz 17 (.pointer (some ⟨g2, 0, none⟩)), Fct.val Flz 18 (.int .u64 (t : Int)), Fct.val Flz 19 (.bool false), Fct.val Flz 20 (.bool false)] (fun w' => Below w3.heap.size w3 w') _ 21 0 chkTrmg1 (by kernel_rfl) (by kernel_rfl) (by kernel_rfl) (by decide) (Below.refl _ _) ?_ ?_
 ·refine lt_s (lt_s (lt_s (lt_s (lt_s (lt_s (lt_s (lt_s (lt_s (lt_s (lt_s (lt_s (lt_s (lt_s (lt_s (lt_s (lt_s (lt_s (lt_s (lt_s (lt_s (lt_0) ?_) ?_) ?_) ?_) ?_) ?_) ?_) ?_) ?_) ?_) ?_) ?_) ?_) ?_) ?_) ?_) ?_) ?_) ?_) ?_) ?_
  ·intro f w1 hS hf aA hA
   have r2 : aA.eval (.tmp 2) = .pointer (some ⟨g1, 0, none⟩) := pO 2 hA (by kernel_rfl) z2
   exact fV rfl rfl (.pointer (some ⟨g1, 1, none⟩)) (fldT1 37 (Or.inr rfl) (.tmp 2) rfl g1 r2) hS uS
  ·intro f w1 hS hf aA hA
   have r8 : aA.eval (.tmp 8) = .pointer (some ⟨g1, 1, none⟩) := pA 8 0 hA sbTrmg1 (by kernel_rfl) zsz rfl (hf 0 (by decide))
   exact fV rfl rfl (u) (ex_load1 35 (.tmp 8) rfl ⟨g1, 1, none⟩ r8 (fun _ => by kernel_rfl) ((HX1.out.keepB hS).cellv rfl)) hS uS
  ·intro f w1 hS hf aA hA
   have r9 : aA.eval (.tmp 9) = u := pA 9 1 hA sbTrmg1 (by kernel_rfl) zsz rfl (hf 1 (by decide))
   obtain ⟨q9, c9, hv9, _⟩ := (HA.out.keep (HB.out.trans (hS.mono HB.out.size)))
   exact fV rfl rfl (.int .i64 (((A).length : Int))) (ex_len 35 73 (.tmp 9) rfl (by kernel_rfl) q9 (A).length c9 (r9.trans hv9)) hS uS
  ·intro f w1 hS hf aA hA
   have r10 : aA.eval (.tmp 10) = .int .i64 (((A).length : Int)) := pA 10 2 hA sbTrmg1 (by kernel_rfl) zsz rfl (hf 2 (by decide))
   exact fC rfl rfl 41 #[(.tmp 10)] _ rfl #[.int .i64 (((A).length : Int))] (mp1 r10) (fun w => by kernel_rfl) _ (as_any (goodR14_any (((A).length : Int)) w1) (congrArg Value.bool HGA.out)) hS (fun _ _ h => uS.trans h)
  ·intro f w1 hS hf aA hA
   have r11 : aA.eval (.tmp 11) = .bool true := pA 11 3 hA sbTrmg1 (by kernel_rfl) zsz rfl (hf 3 (by decide))
   exact fV rfl rfl (.bool false) (ex_not _ (.tmp 11) rfl r11) hS uS
  ·intro f w1 hS hf aA hA
   have r12 : aA.eval (.tmp 12) = .bool false := pA 12 4 hA sbTrmg1 (by kernel_rfl) zsz rfl (hf 4 (by decide))
   exact fV rfl rfl (.bool false) (ex_move (.tmp 12) rfl r12) hS uS
  ·intro f w1 hS hf aA hA
   have t13 : aA.tmps[13]? = some (.bool false) := pG 13 5 hA sbTrmg1 (by kernel_rfl) zsz rfl (hf 5 (by decide))
   have r2 : aA.eval (.tmp 2) = .pointer (some ⟨g1, 0, none⟩) := pO 2 hA (by kernel_rfl) z2
   exact fV rfl ((wanted_of rfl 13 rfl t13).trans rfl) (.pointer (some ⟨g1, 1, none⟩)) (fldT1 37 (Or.inr rfl) (.tmp 2) rfl g1 r2) hS uS
  ·intro f w1 hS hf aA hA
   have t13 : aA.tmps[13]? = some (.bool false) := pG 13 5 hA sbTrmg1 (by kernel_rfl) zsz rfl (hf 5 (by decide))
   have r14 : aA.eval (.tmp 14) = .pointer (some ⟨g1, 1, none⟩) := pA 14 6 hA sbTrmg1 (by kernel_rfl) zsz rfl (hf 6 (by decide))
   exact fV rfl ((wanted_of rfl 13 rfl t13).trans rfl) (u) (ex_load1 35 (.tmp 14) rfl ⟨g1, 1, none⟩ r14 (fun _ => by kernel_rfl) ((HX1.out.keepB hS).cellv rfl)) hS uS
  ·intro f w1 hS hf aA hA
   have t13 : aA.tmps[13]? = some (.bool false) := pG 13 5 hA sbTrmg1 (by kernel_rfl) zsz rfl (hf 5 (by decide))
   have r15 : aA.eval (.tmp 15) = u := pA 15 7 hA sbTrmg1 (by kernel_rfl) zsz rfl (hf 7 (by decide))
   obtain ⟨q9, c9, hv9, _⟩ := (HA.out.keep (HB.out.trans (hS.mono HB.out.size)))
   exact fV rfl ((wanted_of rfl 13 rfl t13).trans rfl) (.int .i64 (((A).length : Int))) (ex_len 35 73 (.tmp 15) rfl (by kernel_rfl) q9 (A).length c9 (r15.trans hv9)) hS uS
  ·intro f w1 hS hf aA hA
   have t13 : aA.tmps[13]? = some (.bool false) := pG 13 5 hA sbTrmg1 (by kernel_rfl) zsz rfl (hf 5 (by decide))
   have r3 : aA.eval (.tmp 3) = .pointer (some ⟨g2, 0, none⟩) := pO 3 hA (by kernel_rfl) z3
   exact fV rfl ((wanted_of rfl 13 rfl t13).trans rfl) (.pointer (some ⟨g2, 1, none⟩)) (fldT1 37 (Or.inr rfl) (.tmp 3) rfl g2 r3) hS uS
  ·intro f w1 hS hf aA hA
   have t13 : aA.tmps[13]? = some (.bool false) := pG 13 5 hA sbTrmg1 (by kernel_rfl) zsz rfl (hf 5 (by decide))
   have r17 : aA.eval (.tmp 17) = .pointer (some ⟨g2, 1, none⟩) := pA 17 9 hA sbTrmg1 (by kernel_rfl) zsz rfl (hf 9 (by decide))
   exact fV rfl ((wanted_of rfl 13 rfl t13).trans rfl) (v) (ex_load1 35 (.tmp 17) rfl ⟨g2, 1, none⟩ r17 (fun _ => by kernel_rfl) ((HX2.out.keepB hS).cellv rfl)) hS uS
  ·intro f w1 hS hf aA hA
   have t13 : aA.tmps[13]? = some (.bool false) := pG 13 5 hA sbTrmg1 (by kernel_rfl) zsz rfl (hf 5 (by decide))
   have r18 : aA.eval (.tmp 18) = v := pA 18 10 hA sbTrmg1 (by kernel_rfl) zsz rfl (hf 10 (by decide))
   obtain ⟨q9, c9, hv9, _⟩ := (HV.out.keep (HB.out.trans (hS.mono HB.out.size)))
   exact fV rfl ((wanted_of rfl 13 rfl t13).trans rfl) (.int .i64 (((B).length : Int))) (ex_len 35 73 (.tmp 18) rfl (by kernel_rfl) q9 (B).length c9 (r18.trans hv9)) hS uS
  ·intro f w1 hS hf aA hA
   have t13 : aA.tmps[13]? = some (.bool false) := pG 13 5 hA sbTrmg1 (by kernel_rfl) zsz rfl (hf 5 (by decide))
   have r16 : aA.eval (.tmp 16) = .int .i64 (((A).length : Int)) := pA 16 8 hA sbTrmg1 (by kernel_rfl) zsz rfl (hf 8 (by decide))
   have r19 : aA.eval (.tmp 19) = .int .i64 (((B).length : Int)) := pA 19 11 hA sbTrmg1 (by kernel_rfl) zsz rfl (hf 11 (by decide))
   exact fV rfl ((wanted_of rfl 13 rfl t13).trans rfl) (.bool false) (Eq.trans (ex_int .neq _ _ (.tmp 16) (.tmp 19) rfl .i64 (((A).length : Int)) (((B).length : Int)) r16 r19 (.bool ((((A).length : Int)) != (((B).length : Int)))) (fun _ => rfl)) (by rw [HNL.out])) hS uS
  ·intro f w1 hS hf aA hA
   have r13 : aA.eval (.tmp 13) = .bool false := pA 13 5 hA sbTrmg1 (by kernel_rfl) zsz rfl (hf 5 (by decide))
   have r20 : aA.eval (.tmp 20) = .bool false := pA 20 12 hA sbTrmg1 (by kernel_rfl) zsz rfl (hf 12 (by decide))
   exact fV rfl rfl (.bool false) (ex_pick (.tmp 13) _ (.tmp 20) rfl false r13 ((if_neg (by decide)).trans r20)) hS uS
  ·intro f w1 hS hf aA hA
   have r21 : aA.eval (.tmp 21) = .bool false := pA 21 13 hA sbTrmg1 (by kernel_rfl) zsz rfl (hf 13 (by decide))
   exact fV rfl rfl (.bool false) (ex_move (.tmp 21) rfl r21) hS uS
  ·intro f w1 hS hf aA hA
   have t22 : aA.tmps[22]? = some (.bool false) := pG 22 14 hA sbTrmg1 (by kernel_rfl) zsz rfl (hf 14 (by decide))
   have r2 : aA.eval (.tmp 2) = .pointer (some ⟨g1, 0, none⟩) := pO 2 hA (by kernel_rfl) z2
   exact fV rfl ((wanted_of rfl 22 rfl t22).trans rfl) (.pointer (some ⟨g1, 0, none⟩)) (fldT0 37 (Or.inr rfl) (.tmp 2) rfl g1 r2) hS uS
  ·intro f w1 hS hf aA hA
   have t22 : aA.tmps[22]? = some (.bool false) := pG 22 14 hA sbTrmg1 (by kernel_rfl) zsz rfl (hf 14 (by decide))
   have r23 : aA.eval (.tmp 23) = .pointer (some ⟨g1, 0, none⟩) := pA 23 15 hA sbTrmg1 (by kernel_rfl) zsz rfl (hf 15 (by decide))
   exact fV rfl ((wanted_of rfl 22 rfl t22).trans rfl) (.int .u64 (s : Int)) (ex_load1 23 (.tmp 23) rfl ⟨g1, 0, none⟩ r23 (fun _ => by kernel_rfl) ((HX1.out.keepB hS).cellv rfl)) hS uS
  ·intro f w1 hS hf aA hA
   have t22 : aA.tmps[22]? = some (.bool false) := pG 22 14 hA sbTrmg1 (by kernel_rfl) zsz rfl (hf 14 (by decide))
   have r3 : aA.eval (.tmp 3) = .pointer (some ⟨g2, 0, none⟩) := pO 3 hA (by kernel_rfl) z3
   exact fV rfl ((wanted_of rfl 22 rfl t22).trans rfl) (.pointer (some ⟨g2, 0, none⟩)) (fldT0 37 (Or.inr rfl) (.tmp 3) rfl g2 r3) hS uS
  ·intro f w1 hS hf aA hA
   have t22 : aA.tmps[22]? = some (.bool false) := pG 22 14 hA sbTrmg1 (by kernel_rfl) zsz rfl (hf 14 (by decide))
   have r25 : aA.eval (.tmp 25) = .pointer (some ⟨g2, 0, none⟩) := pA 25 17 hA sbTrmg1 (by kernel_rfl) zsz rfl (hf 17 (by decide))
   exact fV rfl ((wanted_of rfl 22 rfl t22).trans rfl) (.int .u64 (t : Int)) (ex_load1 23 (.tmp 25) rfl ⟨g2, 0, none⟩ r25 (fun _ => by kernel_rfl) ((HX2.out.keepB hS).cellv rfl)) hS uS
  ·intro f w1 hS hf aA hA
   have t22 : aA.tmps[22]? = some (.bool false) := pG 22 14 hA sbTrmg1 (by kernel_rfl) zsz rfl (hf 14 (by decide))
   have r24 : aA.eval (.tmp 24) = .int .u64 (s : Int) := pA 24 16 hA sbTrmg1 (by kernel_rfl) zsz rfl (hf 16 (by decide))
   have r26 : aA.eval (.tmp 26) = .int .u64 (t : Int) := pA 26 18 hA sbTrmg1 (by kernel_rfl) zsz rfl (hf 18 (by decide))
   exact fV rfl ((wanted_of rfl 22 rfl t22).trans rfl) (.bool false) (Eq.trans (ex_int .neq _ _ (.tmp 24) (.tmp 26) rfl .u64 ((s : Int)) ((t : Int)) r24 r26 (.bool (((s : Int)) != ((t : Int)))) (fun _ => rfl)) (by rw [HNS.out])) hS uS
  ·intro f w1 hS hf aA hA
   have r22 : aA.eval (.tmp 22) = .bool false := pA 22 14 hA sbTrmg1 (by kernel_rfl) zsz rfl (hf 14 (by decide))
   have r27 : aA.eval (.tmp 27) = .bool false := pA 27 19 hA sbTrmg1 (by kernel_rfl) zsz rfl (hf 19 (by decide))
   exact fV rfl rfl (.bool false) (ex_pick (.tmp 22) _ (.tmp 27) rfl false r22 ((if_neg (by decide)).trans r27)) hS uS
 intro f u1 hS hf hap
 have h0 : f 0 = .pointer (some ⟨g1, 1, none⟩) := hf 0 (by decide)
 have h1 : f 1 = u := hf 1 (by decide)
 have h2 : f 2 = .int .i64 (((A).length : Int)) := hf 2 (by decide)
 have h3 : f 3 = .bool true := hf 3 (by decide)
 have h4 : f 4 = .bool false := hf 4 (by decide)
 have h5 : f 5 = .bool false := hf 5 (by decide)
 have h6 : f 6 = .pointer (some ⟨g1, 1, none⟩) := hf 6 (by decide)
 have h7 : f 7 = u := hf 7 (by decide)
 have h8 : f 8 = .int .i64 (((A).length : Int)) := hf 8 (by decide)
 have h9 : f 9 = .pointer (some ⟨g2, 1, none⟩) := hf 9 (by decide)
 have h10 : f 10 = v := hf 10 (by decide)
 have h11 : f 11 = .int .i64 (((B).length : Int)) := hf 11 (by decide)
 have h12 : f 12 = .bool false := hf 12 (by decide)
 have h13 : f 13 = .bool false := hf 13 (by decide)
 have h14 : f 14 = .bool false := hf 14 (by decide)
 have h15 : f 15 = .pointer (some ⟨g1, 0, none⟩) := hf 15 (by decide)
 have h16 : f 16 = .int .u64 (s : Int) := hf 16 (by decide)
 have h17 : f 17 = .pointer (some ⟨g2, 0, none⟩) := hf 17 (by decide)
 have h18 : f 18 = .int .u64 (t : Int) := hf 18 (by decide)
 have h19 : f 19 = .bool false := hf 19 (by decide)
 have h20 : f 20 = .bool false := hf 20 (by decide)
 clear hf hap
 clear zsz z2 z3
 subst ha0
 simp only [slotsTrmg1, putAll, h0, h1, h2, h3, h4, h5, h6, h7, h8, h9, h10, h11, h12, h13, h14, h15, h16, h17, h18, h19, h20, Act.put, List.setIfInBounds_toArray, List.set_cons_zero, List.set_cons_succ]
 clear h0 h1 h2 h3 h4 h5 h6 h7 h8 h9 h10 h11 h12 h13 h14 h15 h16 h17 h18 h19 h20
 refine tl_nil ?_
 replace HX1 := Lib.hid (HX1.out.keepB hS)
 replace HX2 := Lib.hid (HX2.out.keepB hS)
 replace HX3 := Lib.hid (HX3.out.keepB hS)
 replace HB := Lib.hid (HB.out.trans (hS.mono HB.out.size))
 clear hS
 have HG2L : Hid (g2 < u1.heap.size) := Lib.hid HX2.out.lt
 have HG1L : Hid (g1 < u1.heap.size) := Lib.hid HX1.out.lt
 have HG3L : Hid (g3 < u1.heap.size) := Lib.hid HX3.out.lt
 go_upto_region 3 with fail
 refine wp_act (fun a0 ha0 => ?_)
 have zsz : a0.tmps.size = 57 := by rw [ha0]; rfl
 have z2 : a0.eval (.tmp 2) = .pointer (some ⟨g1, 0, none⟩) := by rw [ha0]; rfl
 refine wrO [] slotsTrmg3 waitTrmg3 [Fct.val Flz 0 (.pointer (some ⟨g1, 0, none⟩)), Fct.val Flz 1 (.int .u64 (s : Int)), Fct.val Flz 2 (.agg #[.int .u64 (s : Int), .slice none 0 0]), Fct.obj 3 (fun v w => ∃ g, v = .pointer (some ⟨g, 0, none⟩) ∧ u1.heap.size ≤ g ∧ Has w g 37 ([.int .u64 0, .slice none 0 0])) (fun _ _ _ ⟨g, a, b, c⟩ he => ⟨g, a, b, c.flz he (by decide)⟩)] (fun w' => Below u1.heap.size u1 w') _ 4 1 chkTrmg3 (by kernel_rfl) (by kernel_rfl) (by kernel_rfl) (by decide) (Below.refl _ _) ?_ ?_
 ·refine lt_s (lt_s (lt_s (lt_s (lt_0) ?_) ?_) ?_) ?_
  ·intro f w1 hS hf aA hA
   have r2 : aA.eval (.tmp 2) = .pointer (some ⟨g1, 0, none⟩) := pO 2 hA (by kernel_rfl) z2
   exact fV rfl rfl (.pointer (some ⟨g1, 0, none⟩)) (fldT0 37 (Or.inr rfl) (.tmp 2) rfl g1 r2) hS uS
  ·intro f w1 hS hf aA hA
   have r30 : aA.eval (.tmp 30) = .pointer (some ⟨g1, 0, none⟩) := pA 30 0 hA sbTrmg3 (by kernel_rfl) zsz rfl (hf 0 (by decide))
   exact fV rfl rfl (.int .u64 (s : Int)) (ex_load1 23 (.tmp 30) rfl ⟨g1, 0, none⟩ r30 (fun _ => by kernel_rfl) ((HX1.out.keepB hS).cellv rfl)) hS uS
  ·intro f w1 hS hf aA hA
   have r31 : aA.eval (.tmp 31) = .int .u64 (s : Int) := pA 31 1 hA sbTrmg3 (by kernel_rfl) zsz rfl (hf 1 (by decide))
   exact fV rfl rfl (.agg #[.int .u64 (s : Int), .slice none 0 0]) (ex_build 37 _ rfl #[.int .u64 (s : Int), .slice none 0 0] [(0, .int .u64 (s : Int))] (by simp only [List.map_toArray, List.map_cons, List.map_nil, r31]) (builtQ1 _)) hS uS
  ·intro f w1 hS hf aA hA
   exact flw_wp rfl rfl (fun K hK => wp_alloc_row 37 rfl (.agg #[.int .u64 0, .slice none 0 0]) (fun w => by kernel_rfl) (hK _ _ (hS.alloc hS.size _) (Flz.al _ _) ⟨_, uS, hS.size, Has.made' _ _ _ _ rfl⟩))
 intro f u2 hS hf hap
 have h0 : f 0 = .pointer (some ⟨g1, 0, none⟩) := hf 0 (by decide)
 have h1 : f 1 = .int .u64 (s : Int) := hf 1 (by decide)
 have h2 : f 2 = .agg #[.int .u64 (s : Int), .slice none 0 0] := hf 2 (by decide)
 obtain ⟨b3_3, h3, hgb3, hhb3⟩ := hf 3 (by decide)
 clear hf hap
 clear zsz z2
 subst ha0
 simp only [slotsTrmg3, putAll, h0, h1, h2, h3, Act.put, List.setIfInBounds_toArray, List.set_cons_zero, List.set_cons_succ]
 clear h0 h1 h2 h3
 refine tl_store rfl (by kernel_rfl) 37 (.tmp 6) (.tmp 32) rfl b3_3 ([.int .u64 (s : Int), .slice none 0 0]) _ rfl rfl _ hhb3 (by kernel_rfl) rfl (tb_ones _ rfl) ?_
 intro u3 hp3 hbl hot
 replace hS := hS.trans (hbl _ hgb3)
 clear hbl hot hhb3
 try simp only [Act.put]
 refine tl_nil ?_
 replace HX1 := Lib.hid (HX1.out.keepB hS)
 replace HX2 := Lib.hid (HX2.out.keepB hS)
 replace HX3 := Lib.hid (HX3.out.keepB hS)
 have HBW := Lib.hid HB.out.size
 replace HB := Lib.hid (HB.out.trans (hS.mono HB.out.size))
 clear hS
 have HNEb1 : Hid (g1 ≠ b3_3) := Lib.hid (by have := HG1L.out; have := hgb3; omega)
 have HNEb2 : Hid (g2 ≠ b3_3) := Lib.hid (by have := HG2L.out; have := hgb3; omega)
 have HNEb3 : Hid (g3 ≠ b3_3) := Lib.hid (by have := HG3L.out; have := hgb3; omega)
 have HGb3_3 : Hid (w.heap.size ≤ b3_3) := Lib.hid (Nat.le_trans HBW.out hgb3)
 have HX_b3_3 : Hid (Has u3 b3_3 37 ([.int .u64 (s : Int), .slice none 0 0])) := Lib.hid hp3
 clear hp3 hgb3
 clear HBW
 obtain ⟨b0, hb0⟩ : ∃ b, b = u3.heap.size := ⟨_, rfl⟩
 have HBB : Hid (w.heap.size ≤ b0) := Lib.hid (by rw [hb0]; exact HB.out.size)
 have HBS : Hid (Szl b0 u3) := Lib.hid (Nat.le_of_eq hb0)
 have HG7 := HGb3_3
 have HZ0 : Hid (RowO b0 73 u3 (.slice none 0 0) (List.zipWith minusC (A.take 0) (B.take 0))) := Lib.hid (RowO.nil _ _ _ (by decide))
 clear hb0
 go_wp2_with fail
 go_loopw [7] (fun vi wr => ∃ i : Nat, i ≤ A.length ∧ vi = .int .i64 i ∧ (∃ z, Has wr b3_3 37 [.int .u64 (s : Int), z] ∧ RowO b0 73 wr z (List.zipWith minusC (A.take i) (B.take i))) ∧ (Has wr g1 37 [.int .u64 (s : Int), u] ∧ Has wr g2 37 [.int .u64 (t : Int), v] ∧ Has wr g3 37 [.int .u64 0, .slice none 0 0]) ∧ Szl b0 wr ∧ Below w.heap.size w wr) (fun vi _ => A.length - (intOf vi).toNat)
 case atStart => exact ⟨0, by omega, rfl, ⟨_, HX_b3_3.out, HZ0.out⟩, ⟨HX1.out, HX2.out, HX3.out⟩, HBS.out, HB.out⟩
 case round =>
  clear HX_b3_3 HX1 HX2 HX3 HB HBS HZ0
  rename_i wr
  obtain ⟨i, hi, rfl, ⟨vz, hx7, hz⟩, ⟨hx1, hx2, hx3⟩, hbs, hB⟩ := hrel
  have HX7 := Lib.hid hx7
  have HZ := Lib.hid hz
  have HX1 := Lib.hid hx1
  have HX2 := Lib.hid hx2
  have HX3 := Lib.hid hx3
  have HBS := Lib.hid hbs
  have HB := Lib.hid hB
  clear hx7 hz hx1 hx2 hx3 hbs hB
  by_cases hlt : i < A.length
  ·have hlb : i < B.length := by have := HAB.out; omega
   have HLT : Hid (decide (((i : Int)) < (((A).length : Int))) = true) := Lib.hid (decide_eq_true (by omega))
   have HTK := Lib.hid (zipM_snoc HAB.out i hlt)
   have HSM : Hid ((List.zipWith minusC (A.take i) (B.take i)).length + [minusC A[i] B[i]].length ≤ 1000000) := Lib.hid (by have := HAB.out; simp; omega)
   go_upto_region 5 with fail
   refine wp_act (fun a0 ha0 => ?_)
   have zsz : a0.tmps.size = 57 := by rw [ha0]; rfl
   have z7 : a0.eval (.tmp 7) = .int .i64 ((i : Int)) := by rw [ha0]; rfl
   have z2 : a0.eval (.tmp 2) = .pointer (some ⟨g1, 0, none⟩) := by rw [ha0]; rfl
   refine wrO [] slotsTrml5 waitTrml5 [Fct.val Flz 0 (.int .i64 ((i : Int))), Fct.val Flz 1 (.pointer (some ⟨g1, 1, none⟩)), Fct.val Flz 2 (u), Fct.val Flz 3 (.int .i64 (((A).length : Int))), Fct.val Flz 4 (.bool true)] (fun w' => Below wr.heap.size wr w') _ 5 0 chkTrml5 (by kernel_rfl) (by kernel_rfl) (by kernel_rfl) (by decide) (Below.refl _ _) ?_ ?_
   ·refine lt_s (lt_s (lt_s (lt_s (lt_s (lt_0) ?_) ?_) ?_) ?_) ?_
    ·intro f w1 hS hf aA hA
     have r7 : aA.eval (.tmp 7) = .int .i64 ((i : Int)) := pO 7 hA (by kernel_rfl) z7
     exact fV rfl rfl (.int .i64 ((i : Int))) (ex_move (.tmp 7) rfl r7) hS uS
    ·intro f w1 hS hf aA hA
     have r2 : aA.eval (.tmp 2) = .pointer (some ⟨g1, 0, none⟩) := pO 2 hA (by kernel_rfl) z2
     exact fV rfl rfl (.pointer (some ⟨g1, 1, none⟩)) (fldT1 37 (Or.inr rfl) (.tmp 2) rfl g1 r2) hS uS
    ·intro f w1 hS hf aA hA
     have r34 : aA.eval (.tmp 34) = .pointer (some ⟨g1, 1, none⟩) := pA 34 1 hA sbTrml5 (by kernel_rfl) zsz rfl (hf 1 (by decide))
     exact fV rfl rfl (u) (ex_load1 35 (.tmp 34) rfl ⟨g1, 1, none⟩ r34 (fun _ => by kernel_rfl) ((HX1.out.keepB hS).cellv rfl)) hS uS
    ·intro f w1 hS hf aA hA
     have r35 : aA.eval (.tmp 35) = u := pA 35 2 hA sbTrml5 (by kernel_rfl) zsz rfl (hf 2 (by decide))
     obtain ⟨q9, c9, hv9, _⟩ := (HA.out.keep (HB.out.trans (hS.mono HB.out.size)))
     exact fV rfl rfl (.int .i64 (((A).length : Int))) (ex_len 35 73 (.tmp 35) rfl (by kernel_rfl) q9 (A).length c9 (r35.trans hv9)) hS uS
    ·intro f w1 hS hf aA hA
     have r33 : aA.eval (.tmp 33) = .int .i64 ((i : Int)) := pA 33 0 hA sbTrml5 (by kernel_rfl) zsz rfl (hf 0 (by decide))
     have r36 : aA.eval (.tmp 36) = .int .i64 (((A).length : Int)) := pA 36 3 hA sbTrml5 (by kernel_rfl) zsz rfl (hf 3 (by decide))
     exact fV rfl rfl (.bool true) (Eq.trans (ex_int .lss _ _ (.tmp 33) (.tmp 36) rfl .i64 ((i : Int)) (((A).length : Int)) r33 r36 (.bool (decide (((i : Int)) < (((A).length : Int))))) (fun _ => rfl)) (by rw [HLT.out])) hS uS
   intro f u4 hS hf hap
   have h0 : f 0 = .int .i64 ((i : Int)) := hf 0 (by decide)
   have h1 : f 1 = .pointer (some ⟨g1, 1, none⟩) := hf 1 (by decide)
   have h2 : f 2 = u := hf 2 (by decide)
   have h3 : f 3 = .int .i64 (((A).length : Int)) := hf 3 (by decide)
   have h4 : f 4 = .bool true := hf 4 (by decide)
   clear hf hap
   clear zsz z7 z2
   subst ha0
   simp only [slotsTrml5, putAll, h0, h1, h2, h3, h4, Act.put, List.setIfInBounds_toArray, List.set_cons_zero, List.set_cons_succ]
   clear h0 h1 h2 h3 h4
   refine tl_nil ?_
   replace HX7 := Lib.hid (HX7.out.keepB hS)
   replace HX1 := Lib.hid (HX1.out.keepB hS)
   replace HX2 := Lib.hid (HX2.out.keepB hS)
   replace HX3 := Lib.hid (HX3.out.keepB hS)
   replace HZ := Lib.hid (HZ.out.keep hS)
   replace HBS := Lib.hid (HBS.out.keep hS)
   replace HB := Lib.hid (HB.out.trans (hS.mono HB.out.size))
   clear hS
   go_upto_region 7 with fail
   have HST : Hid (Below u4.heap.size u4 u4.drew) := Lib.hid (Below.refl _ _).drew
   replace HX7 := Lib.hid (HX7.out.keepB HST.out)
   replace HX1 := Lib.hid (HX1.out.keepB HST.out)
   replace HX2 := Lib.hid (HX2.out.keepB HST.out)
   replace HX3 := Lib.hid (HX3.out.keepB HST.out)
   replace HZ := Lib.hid (HZ.out.keep HST.out)
   replace HBS := Lib.hid (HBS.out.keep HST.out)
   replace HB := Lib.hid (HB.out.trans (HST.out.mono HB.out.size))
   clear HST
   obtain ⟨a, cp2, hv, _, hc⟩ := (HA.out.keep HB.out).el hlt
   have HAV := Lib.hid hv
   have HAC := Lib.hid hc
   clear hv hc
   obtain ⟨d, cp3, hv, _, hc⟩ := (HV.out.keep HB.out).el hlb
   have HVV := Lib.hid hv
   have HVC := Lib.hid hc
   clear hv hc
   refine wp_act (fun a0 ha0 => ?_)
   have zsz : a0.tmps.size = 57 := by rw [ha0]; rfl
   have z6 : a0.eval (.tmp 6) = .pointer (some ⟨b3_3, 0, none⟩) := by rw [ha0]; rfl
   have z2 : a0.eval (.tmp 2) = .pointer (some ⟨g1, 0, none⟩) := by rw [ha0]; rfl
   have z7 : a0.eval (.tmp 7) = .int .i64 ((i : Int)) := by rw [ha0]; rfl
   have z3 : a0.eval (.tmp 3) = .pointer (some ⟨g2, 0, none⟩) := by rw [ha0]; rfl
   refine wrD [] slotsTrm7 waitTrm7 [Fct.val Flz 0 (.pointer (some ⟨b3_3, 1, none⟩)), Fct.val Flz 1 (vz), Fct.val Flz 2 (.pointer (some ⟨g1, 1, none⟩)), Fct.val Flz 3 (u), Fct.val Flz 4 (.int .i64 ((i : Int))), Fct.val Flz 5 (.pointer (some (a.add (i * 65)))), Fct.val Flz 6 (aggC ((A[i]))), Fct.val Flz 7 (.pointer (some ⟨g2, 1, none⟩)), Fct.val Flz 8 (v), Fct.val Flz 9 (.int .i64 ((i : Int))), Fct.val Flz 10 (.pointer (some (d.add (i * 65)))), Fct.val Flz 11 (aggC ((B[i]))), Fct.val Flz 12 (aggC (minusC ((A[i])) ((B[i])))), Fct.obj 13 (fun v w => ∃ zz, v = .slice (some ⟨zz, 0, none⟩) 1 1 ∧ u4.drew.heap.size ≤ zz ∧ Has w zz 73 (encC (minusC ((A[i])) ((B[i]))))) (fun _ _ _ ⟨zz, a, b⟩ he => ⟨zz, a, ⟨b.1, b.2.flz he (by decide)⟩⟩)] (fun w' => Below u4.drew.heap.size u4.drew w') _ 14 3 chkTrm7 (by kernel_rfl) (by kernel_rfl) (by kernel_rfl) (by kernel_rfl) (by decide) (Below.refl _ _) ?_ ?_
   ·refine lt_s (lt_s (lt_s (lt_s (lt_s (lt_s (lt_s (lt_s (lt_s (lt_s (lt_s (lt_s (lt_s (lt_s (lt_0) ?_) ?_) ?_) ?_) ?_) ?_) ?_) ?_) ?_) ?_) ?_) ?_) ?_) ?_
    ·intro f w1 hS hf aA hA
     have r6 : aA.eval (.tmp 6) = .pointer (some ⟨b3_3, 0, none⟩) := pO 6 hA (by kernel_rfl) z6
     exact fV rfl rfl (.pointer (some ⟨b3_3, 1, none⟩)) (fldT1 37 (Or.inr rfl) (.tmp 6) rfl b3_3 r6) hS uS
    ·intro f w1 hS hf aA hA
     have r40 : aA.eval (.tmp 40) = .pointer (some ⟨b3_3, 1, none⟩) := pA 40 0 hA sbTrm7 (by kernel_rfl) zsz rfl (hf 0 (by decide))
     exact fV rfl rfl (vz) (ex_load1 35 (.tmp 40) rfl ⟨b3_3, 1, none⟩ r40 (fun _ => by kernel_rfl) ((HX7.out.keepB hS).cellv rfl)) hS uS
    ·intro f w1 hS hf aA hA
     have r2 : aA.eval (.tmp 2) = .pointer (some ⟨g1, 0, none⟩) := pO 2 hA (by kernel_rfl) z2
     exact fV rfl rfl (.pointer (some ⟨g1, 1, none⟩)) (fldT1 37 (Or.inr rfl) (.tmp 2) rfl g1 r2) hS uS
    ·intro f w1 hS hf aA hA
     have r42 : aA.eval (.tmp 42) = .pointer (some ⟨g1, 1, none⟩) := pA 42 2 hA sbTrm7 (by kernel_rfl) zsz rfl (hf 2 (by decide))
     exact fV rfl rfl (u) (ex_load1 35 (.tmp 42) rfl ⟨g1, 1, none⟩ r42 (fun _ => by kernel_rfl) ((HX1.out.keepB hS).cellv rfl)) hS uS
    ·intro f w1 hS hf aA hA
     have r7 : aA.eval (.tmp 7) = .int .i64 ((i : Int)) := pO 7 hA (by kernel_rfl) z7
     exact fV rfl rfl (.int .i64 ((i : Int))) (ex_move (.tmp 7) rfl r7) hS uS
    ·intro f w1 hS hf aA hA
     have r43 : aA.eval (.tmp 43) = u := pA 43 3 hA sbTrm7 (by kernel_rfl) zsz rfl (hf 3 (by decide))
     have r44 : aA.eval (.tmp 44) = .int .i64 ((i : Int)) := pA 44 4 hA sbTrm7 (by kernel_rfl) zsz rfl (hf 4 (by decide))
     exact fV rfl rfl (.pointer (some (a.add (i * 65)))) (ex_indexS 35 73 (.tmp 43) (.tmp 44) rfl a A.length cp2 i 65 (by kernel_rfl) (fun _ => by kernel_rfl) (Eq.trans r43 HAV.out) r44 hlt) hS uS
    ·intro f w1 hS hf aA hA
     have r45 : aA.eval (.tmp 45) = .pointer (some (a.add (i * 65))) := pA 45 5 hA sbTrm7 (by kernel_rfl) zsz rfl (hf 5 (by decide))
     exact fV rfl rfl (aggC ((A[i]))) (ex_loadR 73 (.tmp 45) rfl (a.add (i * 65)) r45 (fun _ => by kernel_rfl) (encC ((A[i]))) (by rw [encC_len]; kernel_rfl) (HAC.out w1 hS.block)) hS uS
    ·intro f w1 hS hf aA hA
     have r3 : aA.eval (.tmp 3) = .pointer (some ⟨g2, 0, none⟩) := pO 3 hA (by kernel_rfl) z3
     exact fV rfl rfl (.pointer (some ⟨g2, 1, none⟩)) (fldT1 37 (Or.inr rfl) (.tmp 3) rfl g2 r3) hS uS
    ·intro f w1 hS hf aA hA
     have r47 : aA.eval (.tmp 47) = .pointer (some ⟨g2, 1, none⟩) := pA 47 7 hA sbTrm7 (by kernel_rfl) zsz rfl (hf 7 (by decide))
     exact fV rfl rfl (v) (ex_load1 35 (.tmp 47) rfl ⟨g2, 1, none⟩ r47 (fun _ => by kernel_rfl) ((HX2.out.keepB hS).cellv rfl)) hS uS
    ·intro f w1 hS hf aA hA
     have r7 : aA.eval (.tmp 7) = .int .i64 ((i : Int)) := pO 7 hA (by kernel_rfl) z7
     exact fV rfl rfl (.int .i64 ((i : Int))) (ex_move (.tmp 7) rfl r7) hS uS
    ·intro f w1 hS hf aA hA
     have r48 : aA.eval (.tmp 48) = v := pA 48 8 hA sbTrm7 (by kernel_rfl) zsz rfl (hf 8 (by decide))
     have r49 : aA.eval (.tmp 49) = .int .i64 ((i : Int)) := pA 49 9 hA sbTrm7 (by kernel_rfl) zsz rfl (hf 9 (by decide))
     exact fV rfl rfl (.pointer (some (d.add (i * 65)))) (ex_indexS 35 73 (.tmp 48) (.tmp 49) rfl d B.length cp3 i 65 (by kernel_rfl) (fun _ => by kernel_rfl) (Eq.trans r48 HVV.out) r49 hlb) hS uS
    ·intro f w1 hS hf aA hA
     have r50 : aA.eval (.tmp 50) = .pointer (some (d.add (i * 65))) := pA 50 10 hA sbTrm7 (by kernel_rfl) zsz rfl (hf 10 (by decide))
     exact fV rfl rfl (aggC ((B[i]))) (ex_loadR 73 (.tmp 50) rfl (d.add (i * 65)) r50 (fun _ => by kernel_rfl) (encC ((B[i]))) (by rw [encC_len]; kernel_rfl) (HVC.out w1 hS.block)) hS uS
    ·intro f w1 hS hf aA hA
     have r46 : aA.eval (.tmp 46) = aggC ((A[i])) := pA 46 6 hA sbTrm7 (by kernel_rfl) zsz rfl (hf 6 (by decide))
     have r51 : aA.eval (.tmp 51) = aggC ((B[i])) := pA 51 11 hA sbTrm7 (by kernel_rfl) zsz rfl (hf 11 (by decide))
     exact fC rfl rfl 42 #[(.tmp 46), (.tmp 51)] _ rfl #[aggC ((A[i])), aggC ((B[i]))] (mp2 r46 r51) (fun w => by kernel_rfl) _ (rminus_any ((A[i])) ((B[i])) w1) hS (fun _ _ h => uS.trans h)
    ·intro f w1 hS hf aA hA
     have r52 : aA.eval (.tmp 52) = aggC (minusC ((A[i])) ((B[i]))) := pA 52 12 hA sbTrm7 (by kernel_rfl) zsz rfl (hf 12 (by decide))
     exact flw_wp rfl rfl (fun K hK => wp_one_ce 35 73 elR (.tmp 52) rfl (minusC ((A[i])) ((B[i]))) r52 (hK _ _ (hS.alloc hS.size _) (Flz.al _ _) ⟨_, uS, hS.size, Has.made' _ _ _ _ rfl⟩))
   intro f u8 hS hf hap
   have h0 : f 0 = .pointer (some ⟨b3_3, 1, none⟩) := hf 0 (by decide)
   have h1 : f 1 = vz := hf 1 (by decide)
   have h2 : f 2 = .pointer (some ⟨g1, 1, none⟩) := hf 2 (by decide)
   have h3 : f 3 = u := hf 3 (by decide)
   have h4 : f 4 = .int .i64 ((i : Int)) := hf 4 (by decide)
   have h5 : f 5 = .pointer (some (a.add (i * 65))) := hf 5 (by decide)
   have h6 : f 6 = aggC ((A[i])) := hf 6 (by decide)
   have h7 : f 7 = .pointer (some ⟨g2, 1, none⟩) := hf 7 (by decide)
   have h8 : f 8 = v := hf 8 (by decide)
   have h9 : f 9 = .int .i64 ((i : Int)) := hf 9 (by decide)
   have h10 : f 10 = .pointer (some (d.add (i * 65))) := hf 10 (by decide)
   have h11 : f 11 = aggC ((B[i])) := hf 11 (by decide)
   have h12 : f 12 = aggC (minusC ((A[i])) ((B[i]))) := hf 12 (by decide)
   obtain ⟨v7_13, h13, hu13⟩ := hf 13 (by decide)
   have HU7_13 := Lib.hid hu13
   clear hu13
   clear hf hap
   clear zsz z6 z2 z7 z3
   subst ha0
   simp only [slotsTrm7, putAll, h0, h1, h2, h3, h4, h5, h6, h7, h8, h9, h10, h11, h12, h13, Act.put, List.setIfInBounds_toArray, List.set_cons_zero, List.set_cons_succ]
   clear h0 h1 h2 h3 h4 h5 h6 h7 h8 h9 h10 h11 h12 h13
   have HZ8 := Lib.hid (HZ.out.keep hS)
   have HO18 := HU7_13
   have HX8 := Lib.hid (HX7.out.keepB hS)
   have HBS8 : Hid (Szl b0 u8) := Lib.hid (HBS.out.keep hS)
   have HB8 := Lib.hid (HB.out.trans (hS.mono HB.out.size))
   have HX18 := Lib.hid (HX1.out.keepB hS)
   have HX28 := Lib.hid (HX2.out.keepB hS)
   have HX38 := Lib.hid (HX3.out.keepB hS)
   clear hS HZ HX7 HBS HB HX1 HX2 HX3
   refine tl_step rfl rfl (fun K hK => wp_append_ce 35 73 elR (.tmp 41) (.tmp 53) rfl b0 vz (List.zipWith minusC (A.take i) (B.take i)) rfl HZ8.out _ [minusC A[i] B[i]] rfl (Cs.lit1 HO18.out.2) HSM.out HBS8.out (fun vn w8 h1 h2 => hK _ _ ?_))
   have HZ9 := Lib.hid h1
   have HX9 := Lib.hid ((show Grw u8 w8 _ from h2).has HX8.out (HZ8.out.ne HX8.out (by decide)))
   have HB9 := Lib.hid (HB8.out.grown h2 HB8.out.size (fun k hk => Nat.le_trans HBB.out (HZ8.out.base k hk)))
   have HBS9 : Hid (Szl b0 w8) := Lib.hid (Nat.le_trans HBS8.out h2.size)
   have HX19 := Lib.hid ((show Grw u8 w8 _ from h2).has HX18.out (HZ8.out.ne HX18.out (by decide)))
   have HX29 := Lib.hid ((show Grw u8 w8 _ from h2).has HX28.out (HZ8.out.ne HX28.out (by decide)))
   have HX39 := Lib.hid ((show Grw u8 w8 _ from h2).has HX38.out (HZ8.out.ne HX38.out (by decide)))
   clear h1 h2 HZ8 HX8 HB8 HBS8 HO18 HX18 HX28 HX38
   try simp only [Act.put]
   refine tl_pure rfl rfl (.pointer (some ⟨b3_3, 1, none⟩)) (fldT1 37 (.inr rfl) (.tmp 6) rfl b3_3 rfl) ?_
   try simp only [Act.put]
   refine tl_step rfl rfl (fun K hK => wp_store_at 35 (by kernel_rfl) (.tmp 55) (.tmp 54) rfl b3_3 1 37 [.int .u64 (s : Int), vz] HX9.out (by simp) rfl vn HZ9.out.one rfl (fun w9 hp hbl hot => hK _ _ ?_))
   have HX7 : Hid (Has w9 b3_3 37 [.int .u64 (s : Int), vn]) := Lib.hid hp
   have HZ := Lib.hid (HZ9.out.off fun k hk => hot k (HZ9.out.ne HX9.out (by decide) k hk))
   have HB := Lib.hid (HB9.out.trans (hbl _ HG7.out))
   have HBS : Hid (Szl b0 w9) := Lib.hid (Nat.le_trans HBS9.out (hbl 0 (Nat.zero_le _)).size)
   have HX1 := Lib.hid ((hot _ HNEb1.out).trans HX19.out)
   have HX2 := Lib.hid ((hot _ HNEb2.out).trans HX29.out)
   have HX3 := Lib.hid ((hot _ HNEb3.out).trans HX39.out)
   clear hp hbl hot HX9 HZ9 HB9 HBS9 HX19 HX29 HX39
   refine tl_nilN ?_
   try simp only [Act.put]
   go_wp2_with fail
   go_roundw
   case rel => exact ⟨i + 1, by omega, by go_num, ⟨_, HX7.out, by rw [HTK.out]; exact HZ.out⟩, ⟨HX1.out, HX2.out, HX3.out⟩, HBS.out, HB.out⟩
   case measure => simp [intOf]; omega
  ·have hiS : i = A.length := by omega
   have HTA : Hid (List.zipWith minusC (A.take i) (B.take i) = List.zipWith minusC A B) := Lib.hid (by rw [hiS, List.take_length, List.take_of_length_le (by have := HAB.out; omega)])
   have HLT : Hid (decide (((i : Int)) < (((A).length : Int))) = false) := Lib.hid (decide_eq_false (by omega))
   go_upto_region 5 with fail
   refine wp_act (fun a0 ha0 => ?_)
   have zsz : a0.tmps.size = 57 := by rw [ha0]; rfl
   have z7 : a0.eval (.tmp 7) = .int .i64 ((i : Int)) := by rw [ha0]; rfl
   have z2 : a0.eval (.tmp 2) = .pointer (some ⟨g1, 0, none⟩) := by rw [ha0]; rfl
   refine wrO [] slotsTrme5 waitTrme5 [Fct.val Flz 0 (.int .i64 ((i : Int))), Fct.val Flz 1 (.pointer (some ⟨g1, 1, none⟩)), Fct.val Flz 2 (u), Fct.val Flz 3 (.int .i64 (((A).length : Int))), Fct.val Flz 4 (.bool false)] (fun w' => Below wr.heap.size wr w') _ 5 0 chkTrme5 (by kernel_rfl) (by kernel_rfl) (by kernel_rfl) (by decide) (Below.refl _ _) ?_ ?_
   ·refine lt_s (lt_s (lt_s (lt_s (lt_s (lt_0) ?_) ?_) ?_) ?_) ?_
    ·intro f w1 hS hf aA hA
     have r7 : aA.eval (.tmp 7) = .int .i64 ((i : Int)) := pO 7 hA (by kernel_rfl) z7
     exact fV rfl rfl (.int .i64 ((i : Int))) (ex_move (.tmp 7) rfl r7) hS uS
    ·intro f w1 hS hf aA hA
     have r2 : aA.eval (.tmp 2) = .pointer (some ⟨g1, 0, none⟩) := pO 2 hA (by kernel_rfl) z2
     exact fV rfl rfl (.pointer (some ⟨g1, 1, none⟩)) (fldT1 37 (Or.inr rfl) (.tmp 2) rfl g1 r2) hS uS
    ·intro f w1 hS hf aA hA
     have r34 : aA.eval (.tmp 34) = .pointer (some ⟨g1, 1, none⟩) := pA 34 1 hA sbTrme5 (by kernel_rfl) zsz rfl (hf 1 (by decide))
     exact fV rfl rfl (u) (ex_load1 35 (.tmp 34) rfl ⟨g1, 1, none⟩ r34 (fun _ => by kernel_rfl) ((HX1.out.keepB hS).cellv rfl)) hS uS
    ·intro f w1 hS hf aA hA
     have r35 : aA.eval (.tmp 35) = u := pA 35 2 hA sbTrme5 (by kernel_rfl) zsz rfl (hf 2 (by decide))
     obtain ⟨q9, c9, hv9, _⟩ := (HA.out.keep (HB.out.trans (hS.mono HB.out.size)))
     exact fV rfl rfl (.int .i64 (((A).length : Int))) (ex_len 35 73 (.tmp 35) rfl (by kernel_rfl) q9 (A).length c9 (r35.trans hv9)) hS uS
    ·intro f w1 hS hf aA hA
     have r33 : aA.eval (.tmp 33) = .int .i64 ((i : Int)) := pA 33 0 hA sbTrme5 (by kernel_rfl) zsz rfl (hf 0 (by decide))
     have r36 : aA.eval (.tmp 36) = .int .i64 (((A).length : Int)) := pA 36 3 hA sbTrme5 (by kernel_rfl) zsz rfl (hf 3 (by decide))
     exact fV rfl rfl (.bool false) (Eq.trans (ex_int .lss _ _ (.tmp 33) (.tmp 36) rfl .i64 ((i : Int)) (((A).length : Int)) r33 r36 (.bool (decide (((i : Int)) < (((A).length : Int))))) (fun _ => rfl)) (by rw [HLT.out])) hS uS
   intro f u4 hS hf hap
   have h0 : f 0 = .int .i64 ((i : Int)) := hf 0 (by decide)
   have h1 : f 1 = .pointer (some ⟨g1, 1, none⟩) := hf 1 (by decide)
   have h2 : f 2 = u := hf 2 (by decide)
   have h3 : f 3 = .int .i64 (((A).length : Int)) := hf 3 (by decide)
   have h4 : f 4 = .bool false := hf 4 (by decide)
   clear hf hap
   clear zsz z7 z2
   subst ha0
   simp only [slotsTrme5, putAll, h0, h1, h2, h3, h4, Act.put, List.setIfInBounds_toArray, List.set_cons_zero, List.set_cons_succ]
   clear h0 h1 h2 h3 h4
   refine tl_nil ?_
   replace HX7 := Lib.hid (HX7.out.keepB hS)
   replace HX1 := Lib.hid (HX1.out.keepB hS)
   replace HX2 := Lib.hid (HX2.out.keepB hS)
   replace HX3 := Lib.hid (HX3.out.keepB hS)
   replace HZ := Lib.hid (HZ.out.keep hS)
   replace HBS := Lib.hid (HBS.out.keep hS)
   replace HB := Lib.hid (HB.out.trans (hS.mono HB.out.size))
   clear hS
   have HNE_b3_3_g3 : Hid (b3_3 ≠ g3) := Lib.hid (Ne.symm HNEb3.out)
   clear HX1 HX2 HBS
   go_upto_region 8 with fail
   refine wp_act (fun a0 ha0 => ?_)
   have zsz : a0.tmps.size = 57 := by rw [ha0]; rfl
   have z6 : a0.eval (.tmp 6) = .pointer (some ⟨b3_3, 0, none⟩) := by rw [ha0]; rfl
   refine wrO [] slotsTrme8 waitTrme8 [Fct.val Flz 0 (.agg #[.int .u64 (s : Int), vz])] (fun w' => Below u4.heap.size u4 w') _ 1 2 chkTrme8 (by kernel_rfl) (by kernel_rfl) (by kernel_rfl) (by decide) (Below.refl _ _) ?_ ?_
   ·refine lt_s (lt_0) ?_
    ·intro f w1 hS hf aA hA
     have r6 : aA.eval (.tmp 6) = .pointer (some ⟨b3_3, 0, none⟩) := pO 6 hA (by kernel_rfl) z6
     exact fV rfl rfl (.agg #[.int .u64 (s : Int), vz]) (ex_loadR 37 (.tmp 6) rfl ⟨b3_3, 0, none⟩ r6 (fun _ => by kernel_rfl) [.int .u64 (s : Int), vz] (by kernel_rfl) ((HX7.out.keepB hS).part [.int .u64 (s : Int), vz] 0 (fun j u hu => by rw [Nat.zero_add]; exact hu))) hS uS
   intro f u7 hS hf hap
   have h0 : f 0 = .agg #[.int .u64 (s : Int), vz] := hf 0 (by decide)
   clear hf hap
   clear zsz z6
   subst ha0
   simp only [slotsTrme8, putAll, h0, Act.put, List.setIfInBounds_toArray, List.set_cons_zero, List.set_cons_succ]
   clear h0
   have hBS := HB.out.trans (hS.mono HB.out.size)
   replace HX7 := Lib.hid (HX7.out.keepB hS)
   replace HX3 := Lib.hid (HX3.out.keepB hS)
   replace HZ := Lib.hid (HZ.out.keep hS)
   clear hS
   refine tl_store rfl (by kernel_rfl) 37 (.tmp 4) (.tmp 56) rfl g3 ([.int .u64 (s : Int), vz]) _ rfl rfl _ HX3.out (by kernel_rfl) rfl (tb_ones _ HZ.out.one) ?_
   intro u8 hp hbl hot
   replace HX7 : Hid (Has u8 b3_3 37 ([.int .u64 (s : Int), vz])) := Lib.hid ((hot _ (HNE_b3_3_g3.out)).trans HX7.out)
   replace HZ := Lib.hid (HZ.out.hotb HX3.out ⟨_, _, _, rfl⟩ (by decide) (hbl 0 (Nat.zero_le _)).size hot)
   replace HX3 : Hid (Has u8 g3 37 ([.int .u64 (s : Int), vz])) := Lib.hid hp
   replace hBS := hBS.trans (hbl _ HGg3.out)
   clear hp hbl hot
   try simp only [Act.put]
   refine tl_pure rfl (by kernel_rfl) (.int .i64 0) (ex_assign _ rfl rfl) ?_
   try simp only [Act.put, List.setIfInBounds_toArray, List.set_cons_zero, List.set_cons_succ]
   refine tl_nil ?_
   replace HB := Lib.hid hBS
   clear hBS
   go_wp2_with fail
   (try simp only [Exit.inBlock, Exit.then])
   have HN : Hid (minusT s A t B = (s, List.zipWith minusC A B, 0)) := Lib.hid (by rw [HOF.out, if_pos (okM_of s t A B HGA.out (by rw [← HAB.out]; exact HGA.out) HS3.out HAB.out)])
   refine bodyPost_ret (v := .tuple #[.agg #[.int .u64 (s : Int), vz], .int .i64 0]) ?_ rfl ⟨⟨_, rfl, vz, by rw [HN.out], by rw [HN.out]; exact (by have := HZ.out.cs; rwa [HTA.out] at this)⟩, HB.out⟩
   exact results_twoT rfl _ _ g3 37 _ (0, 0) rfl HX3.out _ rfl Tryd.underlying37 (by kernel_rfl)
theorem rminusT_any (s : Nat) (u : Value) (A : List Ce) (t : Nat) (v : Value) (B : List Ce) (w : World) (hst : s = t) (hq : A.length = B.length) (hM : A.length ≤ 100000) (hA : Cs w u A) (hV : Cs w v B) : Calls Tryd.prog 21 #[.agg #[.int .u64 (s : Int), u], .agg #[.int .u64 (t : Int), v]] w fun e w' => (∃ v, e = .returned v ∧ ∃ x, v = .tuple #[.agg #[.int .u64 ((minusT s A t B).1 : Int), x], .int .i64 (minusT s A t B).2.2] ∧ Cs w' x (minusT s A t B).2.1) ∧ Below w.heap.size w w' := rminusT_b s u A t v B w w (Below.refl _ _) hst hq hM hA hV
end Go.Proofs.YtepeloenijlnhaaDoor
