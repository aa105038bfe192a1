/- Contract: package table's Minus. Condition: at most 10^6 cells each. -/
import Derived.Test.YtnkcehmgagpadaaDoorSq
import Derived.Test.YtnkcehmgagpadaaDoorGp4
namespace Go.Proofs.YtnkcehmgagpadaaDoor
open Go.RowKit
def mixM (A B : List Ce) (k : Nat) : List Ce := List.zipWith minusC (A.take k) (B.take k) ++ A.drop k
theorem mixM_zero (A B : List Ce) : mixM A B 0 = A := by unfold mixM; simp
theorem mixM_len {A B : List Ce} (h : A.length = B.length) (k : Nat) (hk : k ≤ A.length) : (mixM A B k).length = A.length := by unfold mixM; simp; omega
theorem mixM_all {A B : List Ce} (h : A.length = B.length) : mixM A B B.length = List.zipWith minusC A B := by unfold mixM; rw [List.take_length, List.take_of_length_le (by omega), List.drop_of_length_le (by omega), List.append_nil]
theorem mixM_at {A B : List Ce} (h : A.length = B.length) (k : Nat) (hk : k < A.length) (hl : k < (mixM A B k).length) : (mixM A B k)[k] = A[k] := by
 have h1 : (List.zipWith minusC (A.take k) (B.take k)).length = k := by simp; omega
 have e : (mixM A B k)[k]? = A[k]? := by
  unfold mixM
  rw [List.getElem?_append_right (by omega), h1, Nat.sub_self, List.getElem?_drop, Nat.add_zero]
 rw [List.getElem?_eq_getElem hl, List.getElem?_eq_getElem hk] at e
 exact Option.some.inj e
theorem mixM_succ {A B : List Ce} (h : A.length = B.length) (k : Nat) (hk : k < A.length) : (mixM A B k).set k (minusC A[k] (B[k]'(by omega))) = mixM A B (k + 1) := by
 have h1 : (List.zipWith minusC (A.take k) (B.take k)).length = k := by simp; omega
 unfold mixM
 rw [List.set_append_right _ _ (by omega), h1, Nat.sub_self, List.drop_eq_getElem_cons hk, List.set_cons_zero]
 rw [List.take_succ_eq_append_getElem hk, List.take_succ_eq_append_getElem (show k < B.length by omega), List.zipWith_append (by simp; omega)]
 simp
theorem okM_of (s t : Nat) (A B : List Ce) (h1 : goodN A.length = true) (h2 : goodN B.length = true) (h3 : s = t) (h4 : A.length = B.length) : okM s t A B = true := by unfold okM; rw [h1, h2, decide_eq_true h3, decide_eq_true h4]; rfl
def waitTmia1 (i : Nat) : List Nat := ([[], [0], [1], [2], [3], [3], [3], [3, 6], [7], [8], [8], [8], [8], [8], [8, 13], [14], [15], [15], [15], [15], [15], [15], [15], [15, 22]] : List (List Nat)).getD i []
def slotsTmia1 : List (Nat × Nat) := [(8, 0), (9, 1), (10, 2), (11, 3), (12, 4), (13, 5), (14, 6), (15, 7), (16, 8), (17, 9), (18, 10), (19, 11), (20, 12), (21, 13), (22, 14), (23, 15), (24, 16), (25, 17), (26, 18), (27, 19), (28, 20), (29, 21), (30, 22), (31, 23)]
theorem sbTmia1 : slotsB slotsTmia1 = true := by kernel_rfl
theorem chkTmia1 : flwO slotsTmia1 waitTmia1 24 (regOf Tryd.f22.body 1) = true := by kernel_rfl
def waitTmia2 (i : Nat) : List Nat := ([[], [0], [0, 1]] : List (List Nat)).getD i []
def slotsTmia2 : List (Nat × Nat) := [(32, 0), (5, 2)]
theorem chkTmia2 : flwO slotsTmia2 waitTmia2 1 (regOf Tryd.f22.body 2) = true := by kernel_rfl
def waitTmig1 (i : Nat) : List Nat := ([[], [0], [1], [2], [3], [3, 4], [3, 5], [3, 6], [7], [8], [8, 9], [8], [8, 11], [8, 10, 12], [8, 13], [14], [15], [15, 16], [15, 17], [15], [15, 19], [15, 20], [15, 18, 21], [15, 22]] : List (List Nat)).getD i []
def slotsTmig1 : List (Nat × Nat) := [(8, 0), (9, 1), (10, 2), (11, 3), (12, 4), (13, 5), (14, 6), (15, 7), (16, 8), (17, 9), (18, 10), (19, 11), (20, 12), (21, 13), (22, 14), (23, 15), (24, 16), (25, 17), (26, 18), (27, 19), (28, 20), (29, 21), (30, 22), (31, 23)]
theorem sbTmig1 : slotsB slotsTmig1 = true := by kernel_rfl
theorem chkTmig1 : flwO slotsTmig1 waitTmig1 24 (regOf Tryd.f22.body 1) = true := by kernel_rfl
def waitTmig3 (i : Nat) : List Nat := ([[], [0], [1], [], [0, 1, 2, 3]] : List (List Nat)).getD i []
def slotsTmig3 : List (Nat × Nat) := [(33, 0), (34, 1), (35, 2), (36, 3)]
theorem sbTmig3 : slotsB slotsTmig3 = true := by kernel_rfl
theorem chkTmig3 : flwO slotsTmig3 waitTmig3 4 (regOf Tryd.f22.body 3) = true := by kernel_rfl
def waitTmig4 (i : Nat) : List Nat := ([[], [0], [1], []] : List (List Nat)).getD i []
def slotsTmig4 : List (Nat × Nat) := [(37, 0), (38, 1), (39, 2), (40, 3)]
theorem sbTmig4 : slotsB slotsTmig4 = true := by kernel_rfl
theorem chkTmig4 : flwO slotsTmig4 waitTmig4 4 (regOf Tryd.f22.body 4) = true := by kernel_rfl
def waitTmil6 (i : Nat) : List Nat := ([[], [], [1], [], [0], [0, 1, 2, 3, 4]] : List (List Nat)).getD i []
def slotsTmil6 : List (Nat × Nat) := [(42, 0), (43, 1), (44, 2), (7, 3), (6, 4)]
theorem sbTmil6 : slotsB slotsTmil6 = true := by kernel_rfl
theorem chkTmil6 : flwO slotsTmil6 waitTmil6 5 (regOf Tryd.f22.body 6) = true := by kernel_rfl
def waitTmil7 (i : Nat) : List Nat := ([[], [0], [], [], [3], [], [4, 5], [6], [], [7, 8], [1, 2], [0, 1, 2, 3, 4, 5, 6, 7, 8, 9, 10]] : List (List Nat)).getD i []
def slotsTmil7 : List (Nat × Nat) := [(45, 0), (46, 1), (47, 2), (48, 3), (49, 4), (50, 5), (51, 6), (52, 7), (53, 8), (54, 9), (55, 10)]
theorem sbTmil7 : slotsB slotsTmil7 = true := by kernel_rfl
theorem chkTmil7 : flwB slotsTmil7 waitTmil7 11 (regOf Tryd.f22.body 7) = true := by kernel_rfl
def waitTmie9 (i : Nat) : List Nat := ([[], [0], [0, 1]] : List (List Nat)).getD i []
def slotsTmie9 : List (Nat × Nat) := [(57, 0), (5, 2)]
theorem chkTmie9 : flwO slotsTmie9 waitTmie9 1 (regOf Tryd.f22.body 9) = true := by kernel_rfl
set_option maxHeartbeats 16000000 in
set_option maxRecDepth 100000 in
theorem minusT_b (s : Nat) (u : Value) (A : List Ce) (t : Nat) (v : Value) (B : List Ce) (w w0 : World) (hB : Below w.heap.size w w0) (hst : s = t) (hq : A.length = B.length) (hM : A.length ≤ 1000000) (hA : Cs w u A) (hV : Cs w v B) : Calls Tryd.prog 22 #[.agg #[.int .u64 (s : Int), u], .agg #[.int .u64 (t : Int), v]] w0 fun e w' => (∃ v, e = .returned v ∧ ∃ x, v = .tuple #[.agg #[.int .u64 ((minusT s A t B).1 : Int), x], .int .i64 (minusT s A t B).2.2] ∧ Cs w' x (minusT s A t B).2.1) ∧ Below w.heap.size w w' := by
 have HOF : Hid (minusT s A t B = if okM s t A B = true then (s, List.zipWith minusC A B, 0) else (0, [], 1)) := Lib.hid rfl
 go_enter Tryd.func22, Tryd.ntmps22
 have HB := Lib.hid hB
 clear hB
 have HA := Lib.hid hA
 have HV := Lib.hid hV
 clear hA hV
 go_upto_region 0 with fail
 refine wp_region_lit ?_
 try simp only [Act.put, List.setIfInBounds_toArray, List.set_cons_zero, List.set_cons_succ]
 refine lp_step rfl (fun K hK => wp_box_row 28 (.tmp 0) rfl (.agg #[.int .u64 (s : Int), u]) rfl (hK _ _ ?_))
 try simp only [Act.put, List.setIfInBounds_toArray, List.set_cons_zero, List.set_cons_succ]
 show wpList _ _ _ _ _ (w0.alloc (.cells (([.int .u64 (s : Int), u] : List Value)).toArray 28))
 have HST : Hid (Below w0.heap.size w0 (w0.alloc (.cells (([.int .u64 (s : Int), u] : List Value)).toArray 28))) := Lib.hid ((Below.refl _ _).alloc (Nat.le_refl _) _)
 have HX1 : Hid (Has (w0.alloc (.cells (([.int .u64 (s : Int), u] : List Value)).toArray 28)) w0.heap.size 28 ([.int .u64 (s : Int), u])) := Lib.hid (Has.made' _ _ _ _ rfl)
 have HGg1 : Hid (w.heap.size ≤ w0.heap.size) := Lib.hid HB.out.size
 replace HB := Lib.hid (HB.out.trans (HST.out.mono HB.out.size))
 clear HST
 generalize w0.alloc (.cells (([.int .u64 (s : Int), u] : List Value)).toArray 28) = w1 at *
 generalize w0.heap.size = g1 at *
 refine lp_step rfl (fun K hK => wp_box_row 28 (.tmp 1) rfl (.agg #[.int .u64 (t : Int), v]) rfl (hK _ _ ?_))
 try simp only [Act.put, List.setIfInBounds_toArray, List.set_cons_zero, List.set_cons_succ]
 show wpList _ _ _ _ _ (w1.alloc (.cells (([.int .u64 (t : Int), v] : List Value)).toArray 28))
 have HST : Hid (Below w1.heap.size w1 (w1.alloc (.cells (([.int .u64 (t : Int), v] : List Value)).toArray 28))) := Lib.hid ((Below.refl _ _).alloc (Nat.le_refl _) _)
 have HLT_g1_g2 : Hid (g1 < w1.heap.size) := Lib.hid HX1.out.lt
 have HNE_g1_g2 : Hid (g1 ≠ w1.heap.size) := Lib.hid (Nat.ne_of_lt HX1.out.lt)
 have HX2 : Hid (Has (w1.alloc (.cells (([.int .u64 (t : Int), v] : List Value)).toArray 28)) w1.heap.size 28 ([.int .u64 (t : Int), v])) := Lib.hid (Has.made' _ _ _ _ rfl)
 replace HX1 := Lib.hid (HX1.out.keepB HST.out)
 have HGg2 : Hid (w.heap.size ≤ w1.heap.size) := Lib.hid HB.out.size
 replace HB := Lib.hid (HB.out.trans (HST.out.mono HB.out.size))
 clear HST
 generalize w1.alloc (.cells (([.int .u64 (t : Int), v] : List Value)).toArray 28) = w2 at *
 generalize w1.heap.size = g2 at *
 refine lp_step rfl (fun K hK => wp_alloc_row 28 rfl (.agg #[.int .u64 0, .slice none 0 0]) (fun w => by kernel_rfl) (hK _ _ ?_))
 try simp only [Act.put, List.setIfInBounds_toArray, List.set_cons_zero, List.set_cons_succ]
 show wpList _ _ _ _ _ (w2.alloc (.cells (([.int .u64 0, .slice none 0 0] : List Value)).toArray 28))
 have HST : Hid (Below w2.heap.size w2 (w2.alloc (.cells (([.int .u64 0, .slice none 0 0] : List Value)).toArray 28))) := Lib.hid ((Below.refl _ _).alloc (Nat.le_refl _) _)
 have HLT_g1_g3 : Hid (g1 < w2.heap.size) := Lib.hid HX1.out.lt
 have HLT_g2_g3 : Hid (g2 < w2.heap.size) := Lib.hid HX2.out.lt
 have HNE_g1_g3 : Hid (g1 ≠ w2.heap.size) := Lib.hid (Nat.ne_of_lt HX1.out.lt)
 have HNE_g2_g3 : Hid (g2 ≠ w2.heap.size) := Lib.hid (Nat.ne_of_lt HX2.out.lt)
 have HX3 : Hid (Has (w2.alloc (.cells (([.int .u64 0, .slice none 0 0] : List Value)).toArray 28)) w2.heap.size 28 ([.int .u64 0, .slice none 0 0])) := Lib.hid (Has.made' _ _ _ _ rfl)
 replace HX1 := Lib.hid (HX1.out.keepB HST.out)
 replace HX2 := Lib.hid (HX2.out.keepB HST.out)
 have HGg3 : Hid (w.heap.size ≤ w2.heap.size) := Lib.hid HB.out.size
 replace HB := Lib.hid (HB.out.trans (HST.out.mono HB.out.size))
 clear HST
 generalize w2.alloc (.cells (([.int .u64 0, .slice none 0 0] : List Value)).toArray 28) = w3 at *
 generalize w2.heap.size = g3 at *
 refine lp_pure (v := .int .i64 0) rfl (ex_assign _ rfl rfl) ?_
 try simp only [Act.put, List.setIfInBounds_toArray, List.set_cons_zero, List.set_cons_succ]
 refine wpList_nil ?_
 obtain ⟨ga, hga⟩ : ∃ g, goodN (A.length : Int) = g := ⟨_, rfl⟩
 have HGA := Lib.hid hga
 clear hga
 cases ga
 ·go_upto_region 1 with fail
  refine wp_act (fun a0 ha0 => ?_)
  have zsz : a0.tmps.size = 58 := by rw [ha0]; rfl
  have z2 : a0.eval (.tmp 2) = .pointer (some ⟨g1, 0, none⟩) := by rw [ha0]; rfl
  refine wrO [] slotsTmia1 waitTmia1 [Fct.val Flz 0 (.agg #[.int .u64 (s : Int), u]), Fct.val Flz 1 (.bool false), Fct.val Flz 2 (.bool true), Fct.val Flz 3 (.bool true), Fct.val Flz 4 (undef), Fct.val Flz 5 (undef), Fct.val Flz 6 (undef), Fct.val Flz 7 (.bool true), Fct.val Flz 8 (.bool true), Fct.val Flz 9 (undef), Fct.val Flz 10 (undef), Fct.val Flz 11 (undef), Fct.val Flz 12 (undef), Fct.val Flz 13 (undef), Fct.val Flz 14 (.bool true), Fct.val Flz 15 (.bool true), Fct.val Flz 16 (undef), Fct.val Flz 17 (undef), Fct.val Flz 18 (undef), Fct.val Flz 19 (undef), Fct.val Flz 20 (undef), Fct.val Flz 21 (undef), Fct.val Flz 22 (undef), Fct.val Flz 23 (.bool true)] (fun w' => Below w3.heap.size w3 w') _ 24 0 chkTmia1 (by kernel_rfl) (by kernel_rfl) (by kernel_rfl) (by decide) (Below.refl _ _) ?_ ?_
  ·refine lt_s (lt_s (lt_s (lt_s (lt_s (lt_s (lt_s (lt_s (lt_s (lt_s (lt_s (lt_s (lt_s (lt_s (lt_s (lt_s (lt_s (lt_s (lt_s (lt_s (lt_s (lt_s (lt_s (lt_s (lt_0) ?_) ?_) ?_) ?_) ?_) ?_) ?_) ?_) ?_) ?_) ?_) ?_) ?_) ?_) ?_) ?_) ?_) ?_) ?_) ?_) ?_) ?_) ?_) ?_
   ·intro f w1 hS hf aA hA
    have r2 := qO 2 hA z2
    exact fV rfl rfl _ (ex_loadR 28 (.tmp 2) rfl ⟨g1, 0, none⟩ r2 (fun _ => by kernel_rfl) [.int .u64 (s : Int), u] (by kernel_rfl) ((HX1.out.keepB hS).part [.int .u64 (s : Int), u] 0 (fun j u hu => by rw [Nat.zero_add]; exact hu))) hS uS
   ·intro f w1 hS hf aA hA
    have r8 := qA 8 0 hA sbTmia1 zsz (hf 0 (by decide))
    exact fC rfl rfl 25 #[(.tmp 8)] _ rfl #[.agg #[.int .u64 (s : Int), u]] (mp1 r8) (fun w => by kernel_rfl) _ (as_any (goodT_any _ _ _ w1 (HA.out.keep (HB.out.trans (hS.mono HB.out.size)))) (congrArg Value.bool HGA.out)) hS (fun _ _ h => uS.trans h)
   ·intro f w1 hS hf aA hA
    have r9 := qA 9 1 hA sbTmia1 zsz (hf 1 (by decide))
    exact fV rfl rfl _ (ex_not _ (.tmp 9) rfl r9) hS uS
   ·intro f w1 hS hf aA hA
    have r10 := qA 10 2 hA sbTmia1 zsz (hf 2 (by decide))
    exact fV rfl rfl _ (ex_move (.tmp 10) rfl r10) hS uS
   ·intro f w1 hS hf aA hA
    have t11 := qG 11 3 hA sbTmia1 zsz (hf 3 (by decide))
    exact flw_skip rfl ((wanted_of rfl 11 rfl t11).trans rfl) hS (Flz.refl _) uS
   ·intro f w1 hS hf aA hA
    have t11 := qG 11 3 hA sbTmia1 zsz (hf 3 (by decide))
    exact flw_skip rfl ((wanted_of rfl 11 rfl t11).trans rfl) hS (Flz.refl _) uS
   ·intro f w1 hS hf aA hA
    have t11 := qG 11 3 hA sbTmia1 zsz (hf 3 (by decide))
    exact flw_skip rfl ((wanted_of rfl 11 rfl t11).trans rfl) hS (Flz.refl _) uS
   ·intro f w1 hS hf aA hA
    have r11 := qA 11 3 hA sbTmia1 zsz (hf 3 (by decide))
    exact fV rfl rfl (.bool true) (ex_pick (.tmp 11) _ (.tmp 14) rfl true r11 ((if_pos rfl).trans rfl)) hS uS
   ·intro f w1 hS hf aA hA
    have r15 := qA 15 7 hA sbTmia1 zsz (hf 7 (by decide))
    exact fV rfl rfl _ (ex_move (.tmp 15) rfl r15) hS uS
   ·intro f w1 hS hf aA hA
    have t16 := qG 16 8 hA sbTmia1 zsz (hf 8 (by decide))
    exact flw_skip rfl ((wanted_of rfl 16 rfl t16).trans rfl) hS (Flz.refl _) uS
   ·intro f w1 hS hf aA hA
    have t16 := qG 16 8 hA sbTmia1 zsz (hf 8 (by decide))
    exact flw_skip rfl ((wanted_of rfl 16 rfl t16).trans rfl) hS (Flz.refl _) uS
   ·intro f w1 hS hf aA hA
    have t16 := qG 16 8 hA sbTmia1 zsz (hf 8 (by decide))
    exact flw_skip rfl ((wanted_of rfl 16 rfl t16).trans rfl) hS (Flz.refl _) uS
   ·intro f w1 hS hf aA hA
    have t16 := qG 16 8 hA sbTmia1 zsz (hf 8 (by decide))
    exact flw_skip rfl ((wanted_of rfl 16 rfl t16).trans rfl) hS (Flz.refl _) uS
   ·intro f w1 hS hf aA hA
    have t16 := qG 16 8 hA sbTmia1 zsz (hf 8 (by decide))
    exact flw_skip rfl ((wanted_of rfl 16 rfl t16).trans rfl) hS (Flz.refl _) uS
   ·intro f w1 hS hf aA hA
    have r16 := qA 16 8 hA sbTmia1 zsz (hf 8 (by decide))
    exact fV rfl rfl (.bool true) (ex_pick (.tmp 16) _ (.tmp 21) rfl true r16 ((if_pos rfl).trans rfl)) hS uS
   ·intro f w1 hS hf aA hA
    have r22 := qA 22 14 hA sbTmia1 zsz (hf 14 (by decide))
    exact fV rfl rfl _ (ex_move (.tmp 22) rfl r22) hS uS
   ·intro f w1 hS hf aA hA
    have t23 := qG 23 15 hA sbTmia1 zsz (hf 15 (by decide))
    exact flw_skip rfl ((wanted_of rfl 23 rfl t23).trans rfl) hS (Flz.refl _) uS
   ·intro f w1 hS hf aA hA
    have t23 := qG 23 15 hA sbTmia1 zsz (hf 15 (by decide))
    exact flw_skip rfl ((wanted_of rfl 23 rfl t23).trans rfl) hS (Flz.refl _) uS
   ·intro f w1 hS hf aA hA
    have t23 := qG 23 15 hA sbTmia1 zsz (hf 15 (by decide))
    exact flw_skip rfl ((wanted_of rfl 23 rfl t23).trans rfl) hS (Flz.refl _) uS
   ·intro f w1 hS hf aA hA
    have t23 := qG 23 15 hA sbTmia1 zsz (hf 15 (by decide))
    exact flw_skip rfl ((wanted_of rfl 23 rfl t23).trans rfl) hS (Flz.refl _) uS
   ·intro f w1 hS hf aA hA
    have t23 := qG 23 15 hA sbTmia1 zsz (hf 15 (by decide))
    exact flw_skip rfl ((wanted_of rfl 23 rfl t23).trans rfl) hS (Flz.refl _) uS
   ·intro f w1 hS hf aA hA
    have t23 := qG 23 15 hA sbTmia1 zsz (hf 15 (by decide))
    exact flw_skip rfl ((wanted_of rfl 23 rfl t23).trans rfl) hS (Flz.refl _) uS
   ·intro f w1 hS hf aA hA
    have t23 := qG 23 15 hA sbTmia1 zsz (hf 15 (by decide))
    exact flw_skip rfl ((wanted_of rfl 23 rfl t23).trans rfl) hS (Flz.refl _) uS
   ·intro f w1 hS hf aA hA
    have r23 := qA 23 15 hA sbTmia1 zsz (hf 15 (by decide))
    exact fV rfl rfl (.bool true) (ex_pick (.tmp 23) _ (.tmp 30) rfl true r23 ((if_pos rfl).trans rfl)) hS uS
  intro f u1 hS hf hap
  have h0 := eqL (hf 0 (by decide)) rfl
  have h1 := eqL (hf 1 (by decide)) rfl
  have h2 := eqL (hf 2 (by decide)) rfl
  have h3 := eqL (hf 3 (by decide)) rfl
  have h4 := eqL (hf 4 (by decide)) rfl
  have h5 := eqL (hf 5 (by decide)) rfl
  have h6 := eqL (hf 6 (by decide)) rfl
  have h7 := eqL (hf 7 (by decide)) rfl
  have h8 := eqL (hf 8 (by decide)) rfl
  have h9 := eqL (hf 9 (by decide)) rfl
  have h10 := eqL (hf 10 (by decide)) rfl
  have h11 := eqL (hf 11 (by decide)) rfl
  have h12 := eqL (hf 12 (by decide)) rfl
  have h13 := eqL (hf 13 (by decide)) rfl
  have h14 := eqL (hf 14 (by decide)) rfl
  have h15 := eqL (hf 15 (by decide)) rfl
  have h16 := eqL (hf 16 (by decide)) rfl
  have h17 := eqL (hf 17 (by decide)) rfl
  have h18 := eqL (hf 18 (by decide)) rfl
  have h19 := eqL (hf 19 (by decide)) rfl
  have h20 := eqL (hf 20 (by decide)) rfl
  have h21 := eqL (hf 21 (by decide)) rfl
  have h22 := eqL (hf 22 (by decide)) rfl
  have h23 := eqL (hf 23 (by decide)) rfl
  clear hf hap
  clear zsz z2
  subst ha0
  simp only [slotsTmia1, putAll, h0, h1, h2, h3, h4, h5, h6, h7, h8, h9, h10, h11, h12, h13, h14, h15, h16, h17, h18, h19, h20, h21, h22, h23, Act.put, List.setIfInBounds_toArray, List.set_cons_zero, List.set_cons_succ]
  clear h0 h1 h2 h3 h4 h5 h6 h7 h8 h9 h10 h11 h12 h13 h14 h15 h16 h17 h18 h19 h20 h21 h22 h23
  refine tl_nil ?_
  replace HX1 := Lib.hid (HX1.out.keepB hS)
  replace HX2 := Lib.hid (HX2.out.keepB hS)
  replace HX3 := Lib.hid (HX3.out.keepB hS)
  replace HB := Lib.hid (HB.out.trans (hS.mono HB.out.size))
  clear hS
  go_upto_region 2 with fail
  refine wp_act (fun a0 ha0 => ?_)
  have zsz : a0.tmps.size = 58 := by rw [ha0]; rfl
  refine wrO [] slotsTmia2 waitTmia2 [Fct.val Flz 0 (.agg #[.int .u64 0, .slice none 0 0])] (fun w' => Below u1.heap.size u1 w') _ 1 2 chkTmia2 (by kernel_rfl) (by kernel_rfl) (by kernel_rfl) (by decide) (Below.refl _ _) ?_ ?_
  ·refine lt_s (lt_0) ?_
   ·intro f w1 hS hf aA hA
    exact fV rfl rfl _ (ex_build 28 _ rfl #[.int .u64 0, .slice none 0 0] [] (by kernel_rfl) builtT0) hS uS
  intro f u2 hS hf hap
  have h0 := eqL (hf 0 (by decide)) rfl
  clear hf hap
  clear zsz
  subst ha0
  simp only [slotsTmia2, putAll, h0, Act.put, List.setIfInBounds_toArray, List.set_cons_zero, List.set_cons_succ]
  clear h0
  have hBS := HB.out.trans (hS.mono HB.out.size)
  replace HX1 := Lib.hid (HX1.out.keepB hS)
  replace HX2 := Lib.hid (HX2.out.keepB hS)
  replace HX3 := Lib.hid (HX3.out.keepB hS)
  clear hS
  refine tl_store rfl (by kernel_rfl) 28 (.tmp 4) (.tmp 32) rfl g3 ([.int .u64 0, .slice none 0 0]) _ rfl rfl _ HX3.out (by kernel_rfl) rfl (tb_ones _ rfl) ?_
  intro u3 hp hbl hot
  replace HX1 : Hid (Has u3 g1 28 ([.int .u64 (s : Int), u])) := Lib.hid ((hot _ (HNE_g1_g3.out)).trans HX1.out)
  replace HX2 : Hid (Has u3 g2 28 ([.int .u64 (t : Int), v])) := Lib.hid ((hot _ (HNE_g2_g3.out)).trans HX2.out)
  replace HX3 : Hid (Has u3 g3 28 ([.int .u64 0, .slice none 0 0])) := Lib.hid hp
  replace hBS := hBS.trans (hbl _ HGg3.out)
  clear hp hbl hot
  try simp only [Act.put]
  refine tl_pure rfl (by kernel_rfl) (.int .i64 1) (ex_assign _ rfl rfl) ?_
  try simp only [Act.put, List.setIfInBounds_toArray, List.set_cons_zero, List.set_cons_succ]
  refine tl_nil ?_
  replace HB := Lib.hid hBS
  clear hBS
  go_wp2_with fail
  (try simp only [Exit.inBlock, Exit.then])
  have HN : Hid (minusT s A t B = (0, [], 1)) := Lib.hid (by rw [HOF.out]; unfold okM; rw [HGA.out]; rfl)
  refine bodyPost_ret (v := .tuple #[.agg #[.int .u64 0, .slice none 0 0], .int .i64 1]) ?_ rfl ⟨⟨_, rfl, .slice none 0 0, by rw [HN.out]; rfl, by rw [HN.out]; exact Cs.nil _⟩, HB.out⟩
  exact results_twoT rfl _ _ g3 28 _ (0, 0) rfl HX3.out _ rfl Tryd.underlying28 (by kernel_rfl)
 have hAB : A.length = B.length := hq
 have HGB : Hid (goodN (B.length : Int) = true) := Lib.hid (by rw [← hAB]; exact HGA.out)
 have HS3 : Hid (s = t) := Lib.hid hst
 have HNS : Hid (((s : Int) != (t : Int)) = false) := Lib.hid (by rw [hst]; simp)
 have HNL : Hid (((A.length : Int) != (B.length : Int)) = false) := Lib.hid (by rw [hAB]; simp)
 clear hst
 go_upto_region 1 with fail
 refine wp_act (fun a0 ha0 => ?_)
 have zsz : a0.tmps.size = 58 := by rw [ha0]; rfl
 have z2 : a0.eval (.tmp 2) = .pointer (some ⟨g1, 0, none⟩) := by rw [ha0]; rfl
 have z3 : a0.eval (.tmp 3) = .pointer (some ⟨g2, 0, none⟩) := by rw [ha0]; rfl
 refine wrO [] slotsTmig1 waitTmig1 [Fct.val Flz 0 (.agg #[.int .u64 (s : Int), u]), Fct.val Flz 1 (.bool true), Fct.val Flz 2 (.bool false), Fct.val Flz 3 (.bool false), Fct.val Flz 4 (.agg #[.int .u64 (t : Int), v]), Fct.val Flz 5 (.bool true), Fct.val Flz 6 (.bool false), Fct.val Flz 7 (.bool false), Fct.val Flz 8 (.bool false), Fct.val Flz 9 (.pointer (some ⟨g1, 0, none⟩)), Fct.val Flz 10 (.int .u64 (s : Int)), Fct.val Flz 11 (.pointer (some ⟨g2, 0, none⟩)), Fct.val Flz 12 (.int .u64 (t : Int)), Fct.val Flz 13 (.bool false), Fct.val Flz 14 (.bool false), Fct.val Flz 15 (.bool false), Fct.val Flz 16 (.pointer (some ⟨g1, 1, none⟩)), Fct.val Flz 17 (u), Fct.val Flz 18 (.int .i64 (((A).length : Int))), Fct.val Flz 19 (.pointer (some ⟨g2, 1, none⟩)), Fct.val Flz 20 (v), Fct.val Flz 21 (.int .i64 (((B).length : Int))), Fct.val Flz 22 (.bool false), Fct.val Flz 23 (.bool false)] (fun w' => Below w3.heap.size w3 w') _ 24 0 chkTmig1 (by kernel_rfl) (by kernel_rfl) (by kernel_rfl) (by decide) (Below.refl _ _) ?_ ?_
 ·refine lt_s (lt_s (lt_s (lt_s (lt_s (lt_s (lt_s (lt_s (lt_s (lt_s (lt_s (lt_s (lt_s (lt_s (lt_s (lt_s (lt_s (lt_s (lt_s (lt_s (lt_s (lt_s (lt_s (lt_s (lt_0) ?_) ?_) ?_) ?_) ?_) ?_) ?_) ?_) ?_) ?_) ?_) ?_) ?_) ?_) ?_) ?_) ?_) ?_) ?_) ?_) ?_) ?_) ?_) ?_
  ·intro f w1 hS hf aA hA
   have r2 := qO 2 hA z2
   exact fV rfl rfl _ (ex_loadR 28 (.tmp 2) rfl ⟨g1, 0, none⟩ r2 (fun _ => by kernel_rfl) [.int .u64 (s : Int), u] (by kernel_rfl) ((HX1.out.keepB hS).part [.int .u64 (s : Int), u] 0 (fun j u hu => by rw [Nat.zero_add]; exact hu))) hS uS
  ·intro f w1 hS hf aA hA
   have r8 := qA 8 0 hA sbTmig1 zsz (hf 0 (by decide))
   exact fC rfl rfl 25 #[(.tmp 8)] _ rfl #[.agg #[.int .u64 (s : Int), u]] (mp1 r8) (fun w => by kernel_rfl) _ (as_any (goodT_any _ _ _ w1 (HA.out.keep (HB.out.trans (hS.mono HB.out.size)))) (congrArg Value.bool HGA.out)) hS (fun _ _ h => uS.trans h)
  ·intro f w1 hS hf aA hA
   have r9 := qA 9 1 hA sbTmig1 zsz (hf 1 (by decide))
   exact fV rfl rfl _ (ex_not _ (.tmp 9) rfl r9) hS uS
  ·intro f w1 hS hf aA hA
   have r10 := qA 10 2 hA sbTmig1 zsz (hf 2 (by decide))
   exact fV rfl rfl _ (ex_move (.tmp 10) rfl r10) hS uS
  ·intro f w1 hS hf aA hA
   have t11 := qG 11 3 hA sbTmig1 zsz (hf 3 (by decide))
   have r3 := qO 3 hA z3
   exact fV rfl ((wanted_of rfl 11 rfl t11).trans rfl) _ (ex_loadR 28 (.tmp 3) rfl ⟨g2, 0, none⟩ r3 (fun _ => by kernel_rfl) [.int .u64 (t : Int), v] (by kernel_rfl) ((HX2.out.keepB hS).part [.int .u64 (t : Int), v] 0 (fun j u hu => by rw [Nat.zero_add]; exact hu))) hS uS
  ·intro f w1 hS hf aA hA
   have t11 := qG 11 3 hA sbTmig1 zsz (hf 3 (by decide))
   have r12 := qA 12 4 hA sbTmig1 zsz (hf 4 (by decide))
   exact fC rfl ((wanted_of rfl 11 rfl t11).trans rfl) 25 #[(.tmp 12)] _ rfl #[.agg #[.int .u64 (t : Int), v]] (mp1 r12) (fun w => by kernel_rfl) _ (as_any (goodT_any _ _ _ w1 (HV.out.keep (HB.out.trans (hS.mono HB.out.size)))) (congrArg Value.bool HGB.out)) hS (fun _ _ h => uS.trans h)
  ·intro f w1 hS hf aA hA
   have t11 := qG 11 3 hA sbTmig1 zsz (hf 3 (by decide))
   have r13 := qA 13 5 hA sbTmig1 zsz (hf 5 (by decide))
   exact fV rfl ((wanted_of rfl 11 rfl t11).trans rfl) _ (ex_not _ (.tmp 13) rfl r13) hS uS
  ·intro f w1 hS hf aA hA
   have r11 := qA 11 3 hA sbTmig1 zsz (hf 3 (by decide))
   have r14 := qA 14 6 hA sbTmig1 zsz (hf 6 (by decide))
   exact fV rfl rfl (.bool false) (ex_pick (.tmp 11) _ (.tmp 14) rfl false r11 ((if_neg (by decide)).trans r14)) hS uS
  ·intro f w1 hS hf aA hA
   have r15 := qA 15 7 hA sbTmig1 zsz (hf 7 (by decide))
   exact fV rfl rfl _ (ex_move (.tmp 15) rfl r15) hS uS
  ·intro f w1 hS hf aA hA
   have t16 := qG 16 8 hA sbTmig1 zsz (hf 8 (by decide))
   have r2 := qO 2 hA z2
   exact fV rfl ((wanted_of rfl 16 rfl t16).trans rfl) _ (fldT0 28 (Or.inl rfl) (.tmp 2) rfl g1 r2) hS uS
  ·intro f w1 hS hf aA hA
   have t16 := qG 16 8 hA sbTmig1 zsz (hf 8 (by decide))
   have r17 := qA 17 9 hA sbTmig1 zsz (hf 9 (by decide))
   exact fV rfl ((wanted_of rfl 16 rfl t16).trans rfl) _ (ex_load1 25 (.tmp 17) rfl ⟨g1, 0, none⟩ r17 (fun _ => by kernel_rfl) ((HX1.out.keepB hS).cellv rfl)) hS uS
  ·intro f w1 hS hf aA hA
   have t16 := qG 16 8 hA sbTmig1 zsz (hf 8 (by decide))
   have r3 := qO 3 hA z3
   exact fV rfl ((wanted_of rfl 16 rfl t16).trans rfl) _ (fldT0 28 (Or.inl rfl) (.tmp 3) rfl g2 r3) hS uS
  ·intro f w1 hS hf aA hA
   have t16 := qG 16 8 hA sbTmig1 zsz (hf 8 (by decide))
   have r19 := qA 19 11 hA sbTmig1 zsz (hf 11 (by decide))
   exact fV rfl ((wanted_of rfl 16 rfl t16).trans rfl) _ (ex_load1 25 (.tmp 19) rfl ⟨g2, 0, none⟩ r19 (fun _ => by kernel_rfl) ((HX2.out.keepB hS).cellv rfl)) hS uS
  ·intro f w1 hS hf aA hA
   have t16 := qG 16 8 hA sbTmig1 zsz (hf 8 (by decide))
   have r18 := qA 18 10 hA sbTmig1 zsz (hf 10 (by decide))
   have r20 := qA 20 12 hA sbTmig1 zsz (hf 12 (by decide))
   exact fV rfl ((wanted_of rfl 16 rfl t16).trans rfl) _ (Eq.trans (ex_int .neq _ _ (.tmp 18) (.tmp 20) rfl .u64 ((s : Int)) ((t : Int)) r18 r20 (.bool (((s : Int)) != ((t : Int)))) (fun _ => rfl)) (by rw [HNS.out])) hS uS
  ·intro f w1 hS hf aA hA
   have r16 := qA 16 8 hA sbTmig1 zsz (hf 8 (by decide))
   have r21 := qA 21 13 hA sbTmig1 zsz (hf 13 (by decide))
   exact fV rfl rfl (.bool false) (ex_pick (.tmp 16) _ (.tmp 21) rfl false r16 ((if_neg (by decide)).trans r21)) hS uS
  ·intro f w1 hS hf aA hA
   have r22 := qA 22 14 hA sbTmig1 zsz (hf 14 (by decide))
   exact fV rfl rfl _ (ex_move (.tmp 22) rfl r22) hS uS
  ·intro f w1 hS hf aA hA
   have t23 := qG 23 15 hA sbTmig1 zsz (hf 15 (by decide))
   have r2 := qO 2 hA z2
   exact fV rfl ((wanted_of rfl 23 rfl t23).trans rfl) _ (fldT1 28 (Or.inl rfl) (.tmp 2) rfl g1 r2) hS uS
  ·intro f w1 hS hf aA hA
   have t23 := qG 23 15 hA sbTmig1 zsz (hf 15 (by decide))
   have r24 := qA 24 16 hA sbTmig1 zsz (hf 16 (by decide))
   exact fV rfl ((wanted_of rfl 23 rfl t23).trans rfl) _ (ex_load1 26 (.tmp 24) rfl ⟨g1, 1, none⟩ r24 (fun _ => by kernel_rfl) ((HX1.out.keepB hS).cellv rfl)) hS uS
  ·intro f w1 hS hf aA hA
   have t23 := qG 23 15 hA sbTmig1 zsz (hf 15 (by decide))
   have r25 := qA 25 17 hA sbTmig1 zsz (hf 17 (by decide))
   obtain ⟨q9, c9, hv9, _⟩ := (HA.out.keep (HB.out.trans (hS.mono HB.out.size)))
   exact fV rfl ((wanted_of rfl 23 rfl t23).trans rfl) _ (ex_len 26 47 (.tmp 25) rfl (by kernel_rfl) q9 (A).length c9 (r25.trans hv9)) hS uS
  ·intro f w1 hS hf aA hA
   have t23 := qG 23 15 hA sbTmig1 zsz (hf 15 (by decide))
   have r3 := qO 3 hA z3
   exact fV rfl ((wanted_of rfl 23 rfl t23).trans rfl) _ (fldT1 28 (Or.inl rfl) (.tmp 3) rfl g2 r3) hS uS
  ·intro f w1 hS hf aA hA
   have t23 := qG 23 15 hA sbTmig1 zsz (hf 15 (by decide))
   have r27 := qA 27 19 hA sbTmig1 zsz (hf 19 (by decide))
   exact fV rfl ((wanted_of rfl 23 rfl t23).trans rfl) _ (ex_load1 26 (.tmp 27) rfl ⟨g2, 1, none⟩ r27 (fun _ => by kernel_rfl) ((HX2.out.keepB hS).cellv rfl)) hS uS
  ·intro f w1 hS hf aA hA
   have t23 := qG 23 15 hA sbTmig1 zsz (hf 15 (by decide))
   have r28 := qA 28 20 hA sbTmig1 zsz (hf 20 (by decide))
   obtain ⟨q9, c9, hv9, _⟩ := (HV.out.keep (HB.out.trans (hS.mono HB.out.size)))
   exact fV rfl ((wanted_of rfl 23 rfl t23).trans rfl) _ (ex_len 26 47 (.tmp 28) rfl (by kernel_rfl) q9 (B).length c9 (r28.trans hv9)) hS uS
  ·intro f w1 hS hf aA hA
   have t23 := qG 23 15 hA sbTmig1 zsz (hf 15 (by decide))
   have r26 := qA 26 18 hA sbTmig1 zsz (hf 18 (by decide))
   have r29 := qA 29 21 hA sbTmig1 zsz (hf 21 (by decide))
   exact fV rfl ((wanted_of rfl 23 rfl t23).trans rfl) _ (Eq.trans (ex_int .neq _ _ (.tmp 26) (.tmp 29) rfl .i64 (((A).length : Int)) (((B).length : Int)) r26 r29 (.bool ((((A).length : Int)) != (((B).length : Int)))) (fun _ => rfl)) (by rw [HNL.out])) hS uS
  ·intro f w1 hS hf aA hA
   have r23 := qA 23 15 hA sbTmig1 zsz (hf 15 (by decide))
   have r30 := qA 30 22 hA sbTmig1 zsz (hf 22 (by decide))
   exact fV rfl rfl (.bool false) (ex_pick (.tmp 23) _ (.tmp 30) rfl false r23 ((if_neg (by decide)).trans r30)) hS uS
 intro f u1 hS hf hap
 have h0 := eqL (hf 0 (by decide)) rfl
 have h1 := eqL (hf 1 (by decide)) rfl
 have h2 := eqL (hf 2 (by decide)) rfl
 have h3 := eqL (hf 3 (by decide)) rfl
 have h4 := eqL (hf 4 (by decide)) rfl
 have h5 := eqL (hf 5 (by decide)) rfl
 have h6 := eqL (hf 6 (by decide)) rfl
 have h7 := eqL (hf 7 (by decide)) rfl
 have h8 := eqL (hf 8 (by decide)) rfl
 have h9 := eqL (hf 9 (by decide)) rfl
 have h10 := eqL (hf 10 (by decide)) rfl
 have h11 := eqL (hf 11 (by decide)) rfl
 have h12 := eqL (hf 12 (by decide)) rfl
 have h13 := eqL (hf 13 (by decide)) rfl
 have h14 := eqL (hf 14 (by decide)) rfl
 have h15 := eqL (hf 15 (by decide)) rfl
 have h16 := eqL (hf 16 (by decide)) rfl
 have h17 := eqL (hf 17 (by decide)) rfl
 have h18 := eqL (hf 18 (by decide)) rfl
 have h19 := eqL (hf 19 (by decide)) rfl
 have h20 := eqL (hf 20 (by decide)) rfl
 have h21 := eqL (hf 21 (by decide)) rfl
 have h22 := eqL (hf 22 (by decide)) rfl
 have h23 := eqL (hf 23 (by decide)) rfl
 clear hf hap
 clear zsz z2 z3
 subst ha0
 simp only [slotsTmig1, putAll, h0, h1, h2, h3, h4, h5, h6, h7, h8, h9, h10, h11, h12, h13, h14, h15, h16, h17, h18, h19, h20, h21, h22, h23, Act.put, List.setIfInBounds_toArray, List.set_cons_zero, List.set_cons_succ]
 clear h0 h1 h2 h3 h4 h5 h6 h7 h8 h9 h10 h11 h12 h13 h14 h15 h16 h17 h18 h19 h20 h21 h22 h23
 refine tl_nil ?_
 replace HX1 := Lib.hid (HX1.out.keepB hS)
 replace HX2 := Lib.hid (HX2.out.keepB hS)
 replace HX3 := Lib.hid (HX3.out.keepB hS)
 replace HB := Lib.hid (HB.out.trans (hS.mono HB.out.size))
 clear hS
 have HBB : Hid (w.heap.size ≤ u1.heap.size) := Lib.hid HB.out.size
 go_upto_region 3 with fail
 refine wp_act (fun a0 ha0 => ?_)
 have zsz : a0.tmps.size = 58 := by rw [ha0]; rfl
 have z2 : a0.eval (.tmp 2) = .pointer (some ⟨g1, 0, none⟩) := by rw [ha0]; rfl
 refine wrO [] slotsTmig3 waitTmig3 [Fct.val Flz 0 (.pointer (some ⟨g1, 1, none⟩)), Fct.val Flz 1 (u), Fct.obj 2 (fun v w => ∃ zz, v = zz ∧ RowO u1.heap.size 47 w zz (A)) (fun _ _ _ ⟨zz, a, b⟩ he => ⟨zz, a, b.flz he⟩), Fct.val Flz 3 (.pointer (some ⟨g1, 1, none⟩))] (fun w' => Below u1.heap.size u1 w') _ 4 1 chkTmig3 (by kernel_rfl) (by kernel_rfl) (by kernel_rfl) (by decide) (Below.refl _ _) ?_ ?_
 ·refine lt_s (lt_s (lt_s (lt_s (lt_0) ?_) ?_) ?_) ?_
  ·intro f w1 hS hf aA hA
   have r2 := qO 2 hA z2
   exact fV rfl rfl _ (fldT1 28 (Or.inl rfl) (.tmp 2) rfl g1 r2) hS uS
  ·intro f w1 hS hf aA hA
   have r33 := qA 33 0 hA sbTmig3 zsz (hf 0 (by decide))
   exact fV rfl rfl _ (ex_load1 26 (.tmp 33) rfl ⟨g1, 1, none⟩ r33 (fun _ => by kernel_rfl) ((HX1.out.keepB hS).cellv rfl)) hS uS
  ·intro f w1 hS hf aA hA
   have r34 := qA 34 1 hA sbTmig3 zsz (hf 1 (by decide))
   exact fC rfl rfl 48 #[(.tmp 34)] _ rfl #[u] (mp1 r34) (fun w => by kernel_rfl) _ (cloneC_in _ _ hM w1 (HA.out.keep (HB.out.trans (hS.mono HB.out.size))) u1.heap.size hS.size) hS (fun _ _ ⟨zz, a, b⟩ => ⟨zz, uS.trans a, b⟩)
  ·intro f w1 hS hf aA hA
   have r2 := qO 2 hA z2
   exact fV rfl rfl _ (fldT1 28 (Or.inl rfl) (.tmp 2) rfl g1 r2) hS uS
 intro f u2 hS hf hap
 have h0 := eqL (hf 0 (by decide)) rfl
 have h1 : f 1 = u := hf 1 (by decide)
 obtain ⟨v3_2, h2, hu2⟩ := hf 2 (by decide)
 have HU3_2 := Lib.hid hu2
 clear hu2
 have h3 := eqL (hf 3 (by decide)) rfl
 clear hf hap
 clear zsz z2
 subst ha0
 simp only [slotsTmig3, putAll, h0, h1, h2, h3, Act.put, List.setIfInBounds_toArray, List.set_cons_zero, List.set_cons_succ]
 clear h0 h1 h2 h3
 have hBS := HB.out.trans (hS.mono HB.out.size)
 replace HX1 := Lib.hid (HX1.out.keepB hS)
 replace HX2 := Lib.hid (HX2.out.keepB hS)
 replace HX3 := Lib.hid (HX3.out.keepB hS)
 clear hS
 refine tl_step rfl rfl (fun K hK => wp_store_at 26 (by kernel_rfl) (.tmp 36) (.tmp 35) rfl g1 1 28 [.int .u64 (s : Int), u] HX1.out (by simp) rfl v3_2 HU3_2.out.one rfl (fun u3 hp hbl hot => hK _ _ ?_))
 replace HX2 : Hid (Has u3 g2 28 ([.int .u64 (t : Int), v])) := Lib.hid ((hot _ (Ne.symm HNE_g1_g2.out)).trans HX2.out)
 replace HX3 : Hid (Has u3 g3 28 ([.int .u64 0, .slice none 0 0])) := Lib.hid ((hot _ (Ne.symm HNE_g1_g3.out)).trans HX3.out)
 replace HU3_2 := Lib.hid (HU3_2.out.hotb HX1.out HA.out.sl (by decide) (hbl 0 (Nat.zero_le _)).size hot)
 replace HX1 : Hid (Has u3 g1 28 ([.int .u64 (s : Int), v3_2])) := Lib.hid hp
 replace hBS := hBS.trans (hbl _ HGg1.out)
 clear hp hbl hot
 try simp only [Act.put]
 refine tl_nil ?_
 replace HB := Lib.hid hBS
 clear hBS
 go_upto_region 4 with fail
 refine wp_act (fun a0 ha0 => ?_)
 have zsz : a0.tmps.size = 58 := by rw [ha0]; rfl
 have z3 : a0.eval (.tmp 3) = .pointer (some ⟨g2, 0, none⟩) := by rw [ha0]; rfl
 refine wrO [] slotsTmig4 waitTmig4 [Fct.val Flz 0 (.pointer (some ⟨g2, 1, none⟩)), Fct.val Flz 1 (v), Fct.val Flz 2 (.int .i64 (((B).length : Int))), Fct.val Flz 3 (.int .i64 0)] (fun w' => Below u3.heap.size u3 w') _ 4 0 chkTmig4 (by kernel_rfl) (by kernel_rfl) (by kernel_rfl) (by decide) (Below.refl _ _) ?_ ?_
 ·refine lt_s (lt_s (lt_s (lt_s (lt_0) ?_) ?_) ?_) ?_
  ·intro f w1 hS hf aA hA
   have r3 := qO 3 hA z3
   exact fV rfl rfl _ (fldT1 28 (Or.inl rfl) (.tmp 3) rfl g2 r3) hS uS
  ·intro f w1 hS hf aA hA
   have r37 := qA 37 0 hA sbTmig4 zsz (hf 0 (by decide))
   exact fV rfl rfl _ (ex_load1 26 (.tmp 37) rfl ⟨g2, 1, none⟩ r37 (fun _ => by kernel_rfl) ((HX2.out.keepB hS).cellv rfl)) hS uS
  ·intro f w1 hS hf aA hA
   have r38 := qA 38 1 hA sbTmig4 zsz (hf 1 (by decide))
   obtain ⟨q9, c9, hv9, _⟩ := (HV.out.keep (HB.out.trans (hS.mono HB.out.size)))
   exact fV rfl rfl _ (ex_len 26 47 (.tmp 38) rfl (by kernel_rfl) q9 (B).length c9 (r38.trans hv9)) hS uS
  ·intro f w1 hS hf aA hA
   exact fV rfl rfl (.int .i64 0) (ex_move _ rfl rfl) hS uS
 intro f u4 hS hf hap
 have h0 := eqL (hf 0 (by decide)) rfl
 have h1 : f 1 = v := hf 1 (by decide)
 have h2 := eqL (hf 2 (by decide)) rfl
 have h3 := eqL (hf 3 (by decide)) rfl
 clear hf hap
 clear zsz z3
 subst ha0
 simp only [slotsTmig4, putAll, h0, h1, h2, h3, Act.put, List.setIfInBounds_toArray, List.set_cons_zero, List.set_cons_succ]
 clear h0 h1 h2 h3
 refine tl_nil ?_
 replace HX1 := Lib.hid (HX1.out.keepB hS)
 replace HX2 := Lib.hid (HX2.out.keepB hS)
 replace HX3 := Lib.hid (HX3.out.keepB hS)
 replace HU3_2 := Lib.hid (HU3_2.out.keep hS)
 replace HB := Lib.hid (HB.out.trans (hS.mono HB.out.size))
 clear hS
 rw [← mixM_zero A B] at HU3_2
 go_wp2_with fail
 go_loopw [40] (fun vi wr => ∃ i : Nat, i ≤ B.length ∧ vi = .int .i64 i ∧ RowO u1.heap.size 47 wr v3_2 (mixM A B i) ∧ Has wr g1 28 [.int .u64 (s : Int), v3_2] ∧ Has wr g2 28 [.int .u64 (t : Int), v] ∧ Has wr g3 28 [.int .u64 0, .slice none 0 0] ∧ Below w.heap.size w wr) (fun vi _ => B.length - (intOf vi).toNat)
 case atStart => exact ⟨0, by omega, rfl, HU3_2.out, HX1.out, HX2.out, HX3.out, HB.out⟩
 case round =>
  clear HU3_2 HX1 HX2 HX3 HB
  rename_i wr
  obtain ⟨i, hi, rfl, ho, hx1, hx2, hx3, hB⟩ := hrel
  have HO := Lib.hid ho
  have HX1 := Lib.hid hx1
  have HX2 := Lib.hid hx2
  have HX3 := Lib.hid hx3
  have HB := Lib.hid hB
  clear ho hx1 hx2 hx3 hB
  by_cases hlt : i < B.length
  ·have hla : i < A.length := by omega
   have hlm : i < (mixM A B i).length := by rw [mixM_len hAB i (by omega)]; exact hla
   have HAT : Hid ((mixM A B i)[i] = A[i]) := Lib.hid (mixM_at hAB i hla hlm)
   have HST := Lib.hid (mixM_succ hAB i hla)
   obtain ⟨a, cp2, hv, _, hc⟩ := (HV.out.keep HB.out).el hlt
   have HVV := Lib.hid hv
   have HCC := Lib.hid hc
   have k3 : (i : Int) < (B.length : Int) := by omega
   clear hv hc
   go_upto_region 6 with fail
   refine wp_act (fun a0 ha0 => ?_)
   have zsz : a0.tmps.size = 58 := by rw [ha0]; rfl
   have z40 : a0.eval (.tmp 40) = .int .i64 ((i : Int)) := by rw [ha0]; rfl
   have z38 : a0.eval (.tmp 38) = v := by rw [ha0]; rfl
   refine wrO [] slotsTmil6 waitTmil6 [Fct.val Flz 0 (.int .i64 ((i : Int))), Fct.val Flz 1 (.pointer (some (a.add (i * 65)))), Fct.val Flz 2 (aggC ((B[i]))), Fct.obj 3 (fun v w => ∃ g, v = .pointer (some ⟨g, 0, none⟩) ∧ wr.heap.size ≤ g ∧ Has w g 47 (encC zC)) (fun _ _ _ ⟨g, a, b, c⟩ he => ⟨g, a, b, c.flz he (by decide)⟩), Fct.val Flz 4 (.int .i64 ((i : Int)))] (fun w' => Below wr.heap.size wr w') _ 5 1 chkTmil6 (by kernel_rfl) (by kernel_rfl) (by kernel_rfl) (by decide) (Below.refl _ _) ?_ ?_
   ·refine lt_s (lt_s (lt_s (lt_s (lt_s (lt_0) ?_) ?_) ?_) ?_) ?_
    ·intro f w1 hS hf aA hA
     have r40 := qO 40 hA z40
     exact fV rfl rfl _ (ex_move (.tmp 40) rfl r40) hS uS
    ·intro f w1 hS hf aA hA
     have r38 := qO 38 hA z38
     have r40 := qO 40 hA z40
     exact fV rfl rfl _ (ex_indexS 26 47 (.tmp 38) (.tmp 40) rfl a B.length cp2 i 65 (by kernel_rfl) (fun _ => by kernel_rfl) (Eq.trans r38 HVV.out) r40 hlt) hS uS
    ·intro f w1 hS hf aA hA
     have r43 := qA 43 1 hA sbTmil6 zsz (hf 1 (by decide))
     exact fV rfl rfl _ (ex_loadR 47 (.tmp 43) rfl (a.add (i * 65)) r43 (fun _ => by kernel_rfl) (encC ((B[i]))) (by rw [encC_len]; kernel_rfl) (HCC.out w1 hS.block)) hS uS
    ·intro f w1 hS hf aA hA
     exact flw_wp rfl rfl (fun K hK => wp_alloc_row 47 rfl (aggC zC) (fun w => by kernel_rfl) (hK _ _ (hS.alloc hS.size _) (Flz.al _ _) ⟨_, uS, hS.size, Has.made' _ _ _ _ rfl⟩))
    ·intro f w1 hS hf aA hA
     have r42 := qA 42 0 hA sbTmil6 zsz (hf 0 (by decide))
     exact fV rfl rfl _ (ex_assign (.tmp 42) rfl r42) hS uS
   intro f u6 hS hf hap
   have h0 := eqL (hf 0 (by decide)) rfl
   have h1 := eqL (hf 1 (by decide)) rfl
   have h2 := eqL (hf 2 (by decide)) rfl
   obtain ⟨b6_3, h3, hgb3, hhb3⟩ := hf 3 (by decide)
   have h4 := eqL (hf 4 (by decide)) rfl
   clear hf hap
   clear zsz z40 z38
   subst ha0
   simp only [slotsTmil6, putAll, h0, h1, h2, h3, h4, Act.put, List.setIfInBounds_toArray, List.set_cons_zero, List.set_cons_succ]
   clear h0 h1 h2 h3 h4
   refine tl_store rfl (by kernel_rfl) 47 (.tmp 7) (.tmp 44) rfl b6_3 (encC ((B[i]))) _ rfl rfl _ hhb3 (by rw [encC_len]; kernel_rfl) (by simp only [encC_len]) (encC_ones _) ?_
   intro u7 hp3 hbl hot
   replace hS := hS.trans (hbl _ hgb3)
   clear hbl hot hhb3
   try simp only [Act.put]
   refine tl_nil ?_
   replace HO := Lib.hid (HO.out.keep hS)
   replace HX1 := Lib.hid (HX1.out.keepB hS)
   replace HX2 := Lib.hid (HX2.out.keepB hS)
   replace HX3 := Lib.hid (HX3.out.keepB hS)
   have HBW := Lib.hid HB.out.size
   replace HB := Lib.hid (HB.out.trans (hS.mono HB.out.size))
   clear hS
   have HGb6_3 : Hid (w.heap.size ≤ b6_3) := Lib.hid (Nat.le_trans HBW.out hgb3)
   have HX_b6_3 : Hid (Has u7 b6_3 47 (encC ((B[i])))) := Lib.hid hp3
   clear hp3 hgb3
   clear HBW
   go_upto_region 7 with fail
   have HST : Hid (Below u7.heap.size u7 u7.drew) := Lib.hid (Below.refl _ _).drew
   replace HO := Lib.hid (HO.out.keep HST.out)
   replace HX1 := Lib.hid (HX1.out.keepB HST.out)
   replace HX2 := Lib.hid (HX2.out.keepB HST.out)
   replace HX3 := Lib.hid (HX3.out.keepB HST.out)
   replace HX_b6_3 := Lib.hid (HX_b6_3.out.keepB HST.out)
   replace HB := Lib.hid (HB.out.trans (HST.out.mono HB.out.size))
   clear HST
   obtain ⟨gg, cap, hgv, hgb, hgl, hel⟩ := HO.out.el hlm
   have HGV := Lib.hid hgv
   have HGB9 := Lib.hid hgb
   have HEL := Lib.hid hel
   clear hgv hgb hgl hel
   refine wp_act (fun a0 ha0 => ?_)
   have zsz : a0.tmps.size = 58 := by rw [ha0]; rfl
   have z2 : a0.eval (.tmp 2) = .pointer (some ⟨g1, 0, none⟩) := by rw [ha0]; rfl
   have z6 : a0.eval (.tmp 6) = .int .i64 ((i : Int)) := by rw [ha0]; rfl
   have z7 : a0.eval (.tmp 7) = .pointer (some ⟨b6_3, 0, none⟩) := by rw [ha0]; rfl
   refine wrD [] slotsTmil7 waitTmil7 [Fct.val Flz 0 (.pointer (some ⟨g1, 1, none⟩)), Fct.val Flz 1 (v3_2), Fct.val Flz 2 (.int .i64 ((i : Int))), Fct.val Flz 3 (.pointer (some ⟨g1, 1, none⟩)), Fct.val Flz 4 (v3_2), Fct.val Flz 5 (.int .i64 ((i : Int))), Fct.val Flz 6 (.pointer (some ((⟨gg, 0, none⟩ : Addr).add (i * 65)))), Fct.val Flz 7 (aggC (((mixM A B i)[i]))), Fct.val Flz 8 (aggC ((B[i]))), Fct.val Flz 9 (aggC (minusC (((mixM A B i)[i])) ((B[i])))), Fct.val Flz 10 (.pointer (some ((⟨gg, 0, none⟩ : Addr).add (i * 65))))] (fun w' => Below u7.drew.heap.size u7.drew w') _ 11 1 chkTmil7 (by kernel_rfl) (by kernel_rfl) (by kernel_rfl) (by kernel_rfl) (by decide) (Below.refl _ _) ?_ ?_
   ·refine lt_s (lt_s (lt_s (lt_s (lt_s (lt_s (lt_s (lt_s (lt_s (lt_s (lt_s (lt_0) ?_) ?_) ?_) ?_) ?_) ?_) ?_) ?_) ?_) ?_) ?_
    ·intro f w1 hS hf aA hA
     have r2 := qO 2 hA z2
     exact fV rfl rfl _ (fldT1 28 (Or.inl rfl) (.tmp 2) rfl g1 r2) hS uS
    ·intro f w1 hS hf aA hA
     have r45 := qA 45 0 hA sbTmil7 zsz (hf 0 (by decide))
     exact fV rfl rfl _ (ex_load1 26 (.tmp 45) rfl ⟨g1, 1, none⟩ r45 (fun _ => by kernel_rfl) ((HX1.out.keepB hS).cellv rfl)) hS uS
    ·intro f w1 hS hf aA hA
     have r6 := qO 6 hA z6
     exact fV rfl rfl _ (ex_move (.tmp 6) rfl r6) hS uS
    ·intro f w1 hS hf aA hA
     have r2 := qO 2 hA z2
     exact fV rfl rfl _ (fldT1 28 (Or.inl rfl) (.tmp 2) rfl g1 r2) hS uS
    ·intro f w1 hS hf aA hA
     have r48 := qA 48 3 hA sbTmil7 zsz (hf 3 (by decide))
     exact fV rfl rfl _ (ex_load1 26 (.tmp 48) rfl ⟨g1, 1, none⟩ r48 (fun _ => by kernel_rfl) ((HX1.out.keepB hS).cellv rfl)) hS uS
    ·intro f w1 hS hf aA hA
     have r6 := qO 6 hA z6
     exact fV rfl rfl _ (ex_move (.tmp 6) rfl r6) hS uS
    ·intro f w1 hS hf aA hA
     have r49 := qA 49 4 hA sbTmil7 zsz (hf 4 (by decide))
     have r50 := qA 50 5 hA sbTmil7 zsz (hf 5 (by decide))
     exact fV rfl rfl _ (ex_indexS 26 47 (.tmp 49) (.tmp 50) rfl (⟨gg, 0, none⟩ : Addr) (mixM A B i).length cap i 65 (by kernel_rfl) (fun _ => by kernel_rfl) (Eq.trans r49 HGV.out) r50 hlm) hS uS
    ·intro f w1 hS hf aA hA
     have r51 := qA 51 6 hA sbTmil7 zsz (hf 6 (by decide))
     exact fV rfl rfl _ (ex_loadR 47 (.tmp 51) rfl ((⟨gg, 0, none⟩ : Addr).add (i * 65)) r51 (fun _ => by kernel_rfl) (encC (((mixM A B i)[i]))) (by rw [encC_len]; kernel_rfl) (HEL.out w1 hS.block)) hS uS
    ·intro f w1 hS hf aA hA
     have r7 := qO 7 hA z7
     exact fV rfl rfl _ (ex_loadR 47 (.tmp 7) rfl ⟨b6_3, 0, none⟩ r7 (fun _ => by kernel_rfl) (encC ((B[i]))) (by rw [encC_len]; kernel_rfl) ((HX_b6_3.out.keepB hS).part (encC ((B[i]))) 0 (encC_all ((B[i]))))) hS uS
    ·intro f w1 hS hf aA hA
     have r52 := qA 52 7 hA sbTmil7 zsz (hf 7 (by decide))
     have r53 := qA 53 8 hA sbTmil7 zsz (hf 8 (by decide))
     exact fC rfl rfl 49 #[(.tmp 52), (.tmp 53)] _ rfl #[aggC (((mixM A B i)[i])), aggC ((B[i]))] (mp2 r52 r53) (fun w => by kernel_rfl) _ (minus_any (((mixM A B i)[i])) ((B[i])) w1) hS (fun _ _ h => uS.trans h)
    ·intro f w1 hS hf aA hA
     have r46 := qA 46 1 hA sbTmil7 zsz (hf 1 (by decide))
     have r47 := qA 47 2 hA sbTmil7 zsz (hf 2 (by decide))
     exact fV rfl rfl _ (ex_indexS 26 47 (.tmp 46) (.tmp 47) rfl (⟨gg, 0, none⟩ : Addr) (mixM A B i).length cap i 65 (by kernel_rfl) (fun _ => by kernel_rfl) (Eq.trans r46 HGV.out) r47 hlm) hS uS
   intro f u8 hS hf hap
   have h0 := eqL (hf 0 (by decide)) rfl
   have h1 := eqL (hf 1 (by decide)) rfl
   have h2 := eqL (hf 2 (by decide)) rfl
   have h3 := eqL (hf 3 (by decide)) rfl
   have h4 := eqL (hf 4 (by decide)) rfl
   have h5 := eqL (hf 5 (by decide)) rfl
   have h6 := eqL (hf 6 (by decide)) rfl
   have h7 := eqL (hf 7 (by decide)) rfl
   have h8 := eqL (hf 8 (by decide)) rfl
   have h9 := eqL (hf 9 (by decide)) rfl
   have h10 := eqL (hf 10 (by decide)) rfl
   clear hf hap
   clear zsz z2 z6 z7
   subst ha0
   simp only [slotsTmil7, putAll, h0, h1, h2, h3, h4, h5, h6, h7, h8, h9, h10, Act.put, List.setIfInBounds_toArray, List.set_cons_zero, List.set_cons_succ]
   clear h0 h1 h2 h3 h4 h5 h6 h7 h8 h9 h10
   have HO8 := Lib.hid (HO.out.keep hS)
   have HX18 := Lib.hid (HX1.out.keepB hS)
   have HX28 := Lib.hid (HX2.out.keepB hS)
   have HX38 := Lib.hid (HX3.out.keepB hS)
   have HB8 := Lib.hid (HB.out.trans (hS.mono HB.out.size))
   clear HO HX1 HX2 HX3 HB hS
   have HOB : Hid (Value.ownBlock v3_2 = some gg) := Lib.hid (by rw [HGV.out]; rfl)
   refine tl_step rfl rfl (fun K hK => wp_store_ce 47 (by kernel_rfl) (.tmp 55) (.tmp 54) rfl u1.heap.size 47 v3_2 _ HO8.out gg cap i HGV.out hlm rfl _ rfl (fun w9 hR hbl hgr => hK _ _ ?_))
   have HO9 := Lib.hid hR
   have HG9 : Hid (Grw u8 w9 (some gg)) := Lib.hid hgr
   have HB9 := Lib.hid (HB8.out.trans (hbl _ (Nat.le_trans HBB.out HGB9.out)))
   clear hR hbl hgr
   refine tl_nilN ?_
   try simp only [Act.put]
   go_wp2_with fail
   go_roundw
   case rel =>
    have hne : ∀ g, Has u8 g 28 [.int .u64 (s : Int), v3_2] ∨ Has u8 g 28 [.int .u64 (t : Int), v] ∨ Has u8 g 28 [.int .u64 0, .slice none 0 0] → ∀ k, some gg = some k → k ≠ g := fun g hg k hk => by
     obtain rfl := Option.some.inj hk
     rcases hg with hg | hg | hg <;> exact HO8.out.ne hg (by decide) _ HOB.out
    exact ⟨i + 1, by omega, by go_num, by rw [← HST.out, ← HAT.out]; exact HO9.out, HG9.out.has HX18.out (hne _ (.inl HX18.out)), HG9.out.has HX28.out (hne _ (.inr (.inl HX28.out))), HG9.out.has HX38.out (hne _ (.inr (.inr HX38.out))), HB9.out⟩
   case measure => simp [intOf]; omega
  ·obtain rfl : i = B.length := by omega
   have k3 : ¬ (B.length : Int) < (B.length : Int) := by omega
   rw [mixM_all hAB] at HO
   go_upto_region 9 with fail
   refine wp_act (fun a0 ha0 => ?_)
   have zsz : a0.tmps.size = 58 := by rw [ha0]; rfl
   have z2 : a0.eval (.tmp 2) = .pointer (some ⟨g1, 0, none⟩) := by rw [ha0]; rfl
   refine wrO [] slotsTmie9 waitTmie9 [Fct.val Flz 0 (.agg #[.int .u64 (s : Int), v3_2])] (fun w' => Below wr.heap.size wr w') _ 1 2 chkTmie9 (by kernel_rfl) (by kernel_rfl) (by kernel_rfl) (by decide) (Below.refl _ _) ?_ ?_
   ·refine lt_s (lt_0) ?_
    ·intro f w1 hS hf aA hA
     have r2 := qO 2 hA z2
     exact fV rfl rfl _ (ex_loadR 28 (.tmp 2) rfl ⟨g1, 0, none⟩ r2 (fun _ => by kernel_rfl) [.int .u64 (s : Int), v3_2] (by kernel_rfl) ((HX1.out.keepB hS).part [.int .u64 (s : Int), v3_2] 0 (fun j u hu => by rw [Nat.zero_add]; exact hu))) hS uS
   intro f u10 hS hf hap
   have h0 := eqL (hf 0 (by decide)) rfl
   clear hf hap
   clear zsz z2
   subst ha0
   simp only [slotsTmie9, putAll, h0, Act.put, List.setIfInBounds_toArray, List.set_cons_zero, List.set_cons_succ]
   clear h0
   have hBS := HB.out.trans (hS.mono HB.out.size)
   replace HO := Lib.hid (HO.out.keep hS)
   replace HX1 := Lib.hid (HX1.out.keepB hS)
   replace HX2 := Lib.hid (HX2.out.keepB hS)
   replace HX3 := Lib.hid (HX3.out.keepB hS)
   clear hS
   refine tl_store rfl (by kernel_rfl) 28 (.tmp 4) (.tmp 57) rfl g3 ([.int .u64 (s : Int), v3_2]) _ rfl rfl _ HX3.out (by kernel_rfl) rfl (tb_ones _ HO.out.one) ?_
   intro u11 hp hbl hot
   replace HO := Lib.hid (HO.out.hotb HX3.out ⟨_, _, _, rfl⟩ (by decide) (hbl 0 (Nat.zero_le _)).size hot)
   replace HX1 : Hid (Has u11 g1 28 ([.int .u64 (s : Int), v3_2])) := Lib.hid ((hot _ (HNE_g1_g3.out)).trans HX1.out)
   replace HX2 : Hid (Has u11 g2 28 ([.int .u64 (t : Int), v])) := Lib.hid ((hot _ (HNE_g2_g3.out)).trans HX2.out)
   replace HX3 : Hid (Has u11 g3 28 ([.int .u64 (s : Int), v3_2])) := Lib.hid hp
   replace hBS := hBS.trans (hbl _ HGg3.out)
   clear hp hbl hot
   try simp only [Act.put]
   refine tl_pure rfl (by kernel_rfl) (.int .i64 0) (ex_assign _ rfl rfl) ?_
   try simp only [Act.put, List.setIfInBounds_toArray, List.set_cons_zero, List.set_cons_succ]
   refine tl_nil ?_
   replace HB := Lib.hid hBS
   clear hBS
   go_wp2_with fail
   (try simp only [Exit.inBlock, Exit.then])
   have HN : Hid (minusT s A t B = (s, List.zipWith minusC A B, 0)) := Lib.hid (by rw [HOF.out, if_pos (okM_of s t A B HGA.out HGB.out HS3.out hAB)])
   refine bodyPost_ret (v := .tuple #[.agg #[.int .u64 (s : Int), v3_2], .int .i64 0]) ?_ rfl ⟨⟨_, rfl, v3_2, by rw [HN.out], by rw [HN.out]; exact HO.out.cs⟩, HB.out⟩
   exact results_twoT rfl _ _ g3 28 _ (0, 0) rfl HX3.out _ rfl Tryd.underlying28 (by kernel_rfl)
theorem minusT_any (s : Nat) (u : Value) (A : List Ce) (t : Nat) (v : Value) (B : List Ce) (w : World) (hst : s = t) (hq : A.length = B.length) (hM : A.length ≤ 1000000) (hA : Cs w u A) (hV : Cs w v B) : Calls Tryd.prog 22 #[.agg #[.int .u64 (s : Int), u], .agg #[.int .u64 (t : Int), v]] w fun e w' => (∃ v, e = .returned v ∧ ∃ x, v = .tuple #[.agg #[.int .u64 ((minusT s A t B).1 : Int), x], .int .i64 (minusT s A t B).2.2] ∧ Cs w' x (minusT s A t B).2.1) ∧ Below w.heap.size w w' := minusT_b s u A t v B w w (Below.refl _ _) hst hq hM hA hV
end Go.Proofs.YtnkcehmgagpadaaDoor
