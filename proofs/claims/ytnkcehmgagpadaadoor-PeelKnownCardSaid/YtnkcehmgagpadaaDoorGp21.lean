/- Contract: package peel's step. Conditions: the sums' tables are laid; a seed of 64 bits; at most 10^6 cells, 10^5 sums. -/
import Derived.Test.YtnkcehmgagpadaaDoorSq
import Derived.Test.YtnkcehmgagpadaaDoorGp20
import Derived.Test.YtnkcehmgagpadaaDoorGp16
import Derived.Test.YtnkcehmgagpadaaDoorGp5
import Derived.Lib.AppendZerosOnto
import Derived.Lib.SliceRun
namespace Go.Proofs.YtnkcehmgagpadaaDoor
open Go.RowKit
theorem aloneL_set (s : Nat) (L : List Ce) (k : Nat) (d : Ce) (hk : k < L.length) : (aloneL s L).set k (alone s (L.set k d).length ((L.set k d)[k]'(by rw [List.length_set]; exact hk)) k) = aloneL s (L.set k d) := by
 refine List.ext_getElem (by rw [List.length_set, aloneL_len, aloneL_len, List.length_set]) fun i h1 h2 => ?_
 have hi : i < L.length := by rw [List.length_set, aloneL_len] at h1; exact h1
 rw [aloneL_get s (L.set k d) i (by rw [List.length_set]; exact hi), List.getElem_set]
 by_cases e : k = i
 ·subst e; rw [if_pos rfl]
 ·rw [if_neg e, aloneL_get s L i hi]; simp only [List.length_set, List.getElem_set, if_neg e]
theorem fst_lt {s : Nat} {L : List Ce} {i : Nat} (h : fstT (aloneL s L) = some i) : ∃ hi : i < L.length, isPure L[i] = true := by
 obtain ⟨h1, h2⟩ := fstT_some h
 have hi : i < L.length := by rw [aloneL_len] at h1; exact h1
 rw [aloneL_get s L i hi] at h2
 unfold alone at h2
 rw [Bool.and_eq_true] at h2
 exact ⟨hi, h2.1⟩
theorem step_none {s : Nat} {q : Pst} (h : fstT (aloneL s q.1) = none) : stepP s q = none := by unfold stepP; rw [h]
theorem step_some {s : Nat} {q : Pst} {i : Nat} (h : fstT (aloneL s q.1) = some i) (hi : i < q.1.length) : stepP s q = some (takeP s q q.1[i]) := by unfold stepP; rw [h]; simp only [List.getElem?_eq_getElem hi]
theorem Us.oneC {w : World} {v : Value} {L : List Su} (h : Us w v L) : v.oneCell' = true := by obtain ⟨q, c, rfl, _⟩ := h; rfl
/-- What a step makes. -/
def stepQ (s : Nat) (q : Pst) : Pst := (stepP s q).getD q
def PeQ (b : Nat) (w : World) (g s : Nat) (q : Pst) (vL vA vP vM : Value) : Prop := PeS b w g s q.1 (aloneL s q.1) q.2.1 q.2.2 vL vA vP vM
def waitPst0 (i : Nat) : List Nat := ([[]] : List (List Nat)).getD i []
def slotsPst0 : List (Nat × Nat) := [(2, 0)]
theorem chkPst0 : flwO slotsPst0 waitPst0 1 (regOf Tryd.f28.body 0) = true := by kernel_rfl
def waitPsn1 (i : Nat) : List Nat := ([[], [0], [1], [2], [3], [4]] : List (List Nat)).getD i []
def slotsPsn1 : List (Nat × Nat) := [(10, 0), (11, 1), (12, 2), (13, 3), (14, 4), (3, 5)]
theorem sbPsn1 : slotsB slotsPsn1 = true := by kernel_rfl
theorem chkPsn1 : flwO slotsPsn1 waitPsn1 6 (regOf Tryd.f28.body 1) = true := by kernel_rfl
def waitPsn2 (i : Nat) : List Nat := ([[], [0]] : List (List Nat)).getD i []
def slotsPsn2 : List (Nat × Nat) := [(15, 0), (16, 1)]
theorem sbPsn2 : slotsB slotsPsn2 = true := by kernel_rfl
theorem chkPsn2 : flwO slotsPsn2 waitPsn2 2 (regOf Tryd.f28.body 2) = true := by kernel_rfl
def waitPstt4 (i : Nat) : List Nat := ([[], [0], [1], [2], [3], [], [4, 5], [6], [7], [8], [9], [9], [9], [], [0, 1, 2, 3, 4, 5, 6, 7, 8, 9, 10, 11, 12, 13], [0, 1, 2, 3, 4, 5, 6, 7, 8, 9, 10, 11, 12, 13, 14], [0, 1, 2, 3, 4, 5, 6, 7, 8, 9, 10, 11, 12, 13, 14, 15]] : List (List Nat)).getD i []
def slotsPstt4 : List (Nat × Nat) := [(18, 0), (19, 1), (20, 2), (21, 3), (22, 4), (23, 5), (24, 6), (25, 7), (26, 8), (17, 9), (27, 10), (28, 11), (29, 12), (4, 13), (5, 15), (6, 16)]
theorem sbPstt4 : slotsB slotsPstt4 = true := by kernel_rfl
theorem chkPstt4 : flwO slotsPstt4 waitPstt4 14 (regOf Tryd.f28.body 4) = true := by kernel_rfl
def waitPstt5 (i : Nat) : List Nat := ([[]] : List (List Nat)).getD i []
def slotsPstt5 : List (Nat × Nat) := [(7, 0)]
theorem chkPstt5 : flwO slotsPstt5 waitPstt5 1 (regOf Tryd.f28.body 5) = true := by kernel_rfl
def waitPstt6 (i : Nat) : List Nat := ([[]] : List (List Nat)).getD i []
def slotsPstt6 : List (Nat × Nat) := [(30, 0)]
theorem chkPstt6 : flwO slotsPstt6 waitPstt6 1 (regOf Tryd.f28.body 6) = true := by kernel_rfl
def waitPstt7 (i : Nat) : List Nat := ([[], [], [1], [2], [3], [], [5], [4, 6], [0, 1, 2, 3, 4, 5, 6, 7], [0, 1, 2, 3, 4, 5, 6, 7, 8], [0, 1, 2, 3, 4, 5, 6, 7, 8, 9]] : List (List Nat)).getD i []
def slotsPstt7 : List (Nat × Nat) := [(31, 0), (32, 1), (33, 2), (34, 3), (35, 4), (36, 5), (37, 6), (38, 7), (39, 8), (40, 9)]
theorem sbPstt7 : slotsB slotsPstt7 = true := by kernel_rfl
theorem chkPstt7 : flwB slotsPstt7 waitPstt7 8 (regOf Tryd.f28.body 7) = true := by kernel_rfl
def waitPstt10 (i : Nat) : List Nat := ([[], [], [0, 1], [2], []] : List (List Nat)).getD i []
def slotsPstt10 : List (Nat × Nat) := [(51, 0), (52, 1), (53, 2), (54, 3), (55, 4)]
theorem sbPstt10 : slotsB slotsPstt10 = true := by kernel_rfl
theorem chkPstt10 : flwO slotsPstt10 waitPstt10 5 (regOf Tryd.f28.body 10) = true := by kernel_rfl
def waitPstt12 (i : Nat) : List Nat := ([[], [0], [1]] : List (List Nat)).getD i []
def slotsPstt12 : List (Nat × Nat) := [(57, 0), (58, 1), (9, 2)]
theorem sbPstt12 : slotsB slotsPstt12 = true := by kernel_rfl
theorem chkPstt12 : flwO slotsPstt12 waitPstt12 3 (regOf Tryd.f28.body 12) = true := by kernel_rfl
def waitPstt13 (i : Nat) : List Nat := ([[], [0], [1], [2], [3], [], [], [], [7], [8], [9], [10], [], [11, 12], [13], [], [6, 14, 15], [4, 5], [0, 1, 2, 3, 4, 5, 6, 7, 8, 9, 10, 11, 12, 13, 14, 15, 16, 17]] : List (List Nat)).getD i []
def slotsPstt13 : List (Nat × Nat) := [(59, 0), (60, 1), (61, 2), (62, 3), (63, 4), (64, 5), (65, 6), (66, 7), (67, 8), (68, 9), (69, 10), (70, 11), (71, 12), (72, 13), (73, 14), (74, 15), (75, 16), (76, 17)]
theorem sbPstt13 : slotsB slotsPstt13 = true := by kernel_rfl
theorem chkPstt13 : flwB slotsPstt13 waitPstt13 18 (regOf Tryd.f28.body 13) = true := by kernel_rfl
def waitPstt14 (i : Nat) : List Nat := ([[], [], [0, 1]] : List (List Nat)).getD i []
def slotsPstt14 : List (Nat × Nat) := [(77, 0), (78, 1), (79, 2)]
theorem chkPstt14 : flwO slotsPstt14 waitPstt14 2 (regOf Tryd.f28.body 14) = true := by kernel_rfl
def waitPstf8 (i : Nat) : List Nat := ([[], [], [1], [2], [3], [], [5], [4, 6], [0, 1, 2, 3, 4, 5, 6, 7], [0, 1, 2, 3, 4, 5, 6, 7, 8], [0, 1, 2, 3, 4, 5, 6, 7, 8, 9]] : List (List Nat)).getD i []
def slotsPstf8 : List (Nat × Nat) := [(41, 0), (42, 1), (43, 2), (44, 3), (45, 4), (46, 5), (47, 6), (48, 7), (49, 8), (50, 9)]
theorem sbPstf8 : slotsB slotsPstf8 = true := by kernel_rfl
theorem chkPstf8 : flwB slotsPstf8 waitPstf8 8 (regOf Tryd.f28.body 8) = true := by kernel_rfl
def waitPstf9 (i : Nat) : List Nat := ([[]] : List (List Nat)).getD i []
def slotsPstf9 : List (Nat × Nat) := [(7, 0)]
theorem chkPstf9 : flwO slotsPstf9 waitPstf9 1 (regOf Tryd.f28.body 9) = true := by kernel_rfl
set_option maxHeartbeats 32000000 in
set_option maxRecDepth 100000 in
theorem peelStep_b (b g s : Nat) (L : List Ce) (P M : List Su) (vL vA vP vM : Value) (w w0 : World) (hB : Below w.heap.size w w0) (hb : w.heap.size ≤ b) (hs : s < 18446744073709551616) (hL : Laid w) (hM : L.length ≤ 1000000) (hq : P.length + M.length ≤ 100000) (hP : PeS b w0 g s L (aloneL s L) P M vL vA vP vM) :
  Calls Tryd.prog 28 #[.pointer (some ⟨g, 0, none⟩)] w0 fun e w' => (e = .returned (.bool (stepP s (L, P, M)).isSome) ∧ ∃ vL vA vP vM, PeQ b w' g s (stepQ s (L, P, M)) vL vA vP vM) ∧ Below w.heap.size w w' := by
 have HB := Lib.hid hB
 have HBB := Lib.hid hb
 have HL := Lib.hid hL
 have HSZ := Lib.hid hL.size
 have HSD := Lib.hid hs
 have HM := Lib.hid hM
 have HQ := Lib.hid hq
 have HP := Lib.hid hP
 have HAM : Hid ((aloneL s L).length ≤ 1000000) := Lib.hid (by rw [aloneL_len]; exact hM)
 clear hB hb hL hs hM hq hP
 go_enter Tryd.func28, Tryd.ntmps28
 go_upto_region 0 with fail
 refine wp_act (fun a0 ha0 => ?_)
 have zsz : a0.tmps.size = 81 := by rw [ha0]; rfl
 refine wrO [] slotsPst0 waitPst0 [Fct.val Flz 0 (.bool false)] (fun w' => Below w0.heap.size w0 w') _ 1 0 chkPst0 (by kernel_rfl) (by kernel_rfl) (by kernel_rfl) (by decide) (Below.refl _ _) ?_ ?_
 ·refine lt_s (lt_0) ?_
  ·intro f w1 hS hf aA hA
   exact fV rfl rfl (.bool false) (ex_assign _ rfl rfl) hS uS
 intro f u0 hS hf hap
 have h0 := eqL (hf 0 (by decide)) rfl
 clear hf hap
 clear zsz
 subst ha0
 simp only [slotsPst0, putAll, h0, Act.put, List.setIfInBounds_toArray, List.set_cons_zero, List.set_cons_succ]
 clear h0
 refine tl_nil ?_
 replace HP := Lib.hid (HP.out.keep hS)
 replace HB := Lib.hid (HB.out.trans (hS.mono HB.out.size))
 clear hS
 obtain ⟨fi, hfi⟩ : ∃ fi, fstT (aloneL s L) = fi := ⟨_, rfl⟩
 have HFI := Lib.hid hfi
 clear hfi
 cases fi
 ·go_upto_region 1 with fail
  refine wp_act (fun a0 ha0 => ?_)
  have zsz : a0.tmps.size = 81 := by rw [ha0]; rfl
  have z0 : a0.eval (.tmp 0) = .pointer (some ⟨g, 0, none⟩) := by rw [ha0]; rfl
  refine wrO [] slotsPsn1 waitPsn1 [Fct.val Flz 0 (.pointer (some ⟨g, 0, none⟩)), Fct.val Flz 1 (.pointer (some ⟨g, 0, none⟩)), Fct.val Flz 2 (.pointer (some ⟨g, 2, none⟩)), Fct.val Flz 3 (vA), Fct.val Flz 4 (.int .i64 ((-1))), Fct.val Flz 5 (.int .i64 ((-1)))] (fun w' => Below u0.heap.size u0 w') _ 6 0 chkPsn1 (by kernel_rfl) (by kernel_rfl) (by kernel_rfl) (by decide) (Below.refl _ _) ?_ ?_
  ·refine lt_s (lt_s (lt_s (lt_s (lt_s (lt_s (lt_0) ?_) ?_) ?_) ?_) ?_) ?_
   ·intro f w1 hS hf aA hA
    have r0 := qO 0 hA z0
    exact fV rfl rfl _ (ex_move (.tmp 0) rfl r0) hS uS
   ·intro f w1 hS hf aA hA
    have r10 := qA 10 0 hA sbPsn1 zsz (hf 0 (by decide))
    exact fV rfl rfl _ (ex_nil (.tmp 10) rfl g 0 r10) hS uS
   ·intro f w1 hS hf aA hA
    have r11 := qA 11 1 hA sbPsn1 zsz (hf 1 (by decide))
    exact fV rfl rfl _ (fldP1 (.tmp 11) rfl g r11) hS uS
   ·intro f w1 hS hf aA hA
    have r12 := qA 12 2 hA sbPsn1 zsz (hf 2 (by decide))
    exact fV rfl rfl _ (ex_load1 64 (.tmp 12) rfl ⟨g, 2, none⟩ r12 (fun _ => by kernel_rfl) ((HP.out.box.keepB hS).cellv rfl)) hS uS
   ·intro f w1 hS hf aA hA
    have r13 := qA 13 3 hA sbPsn1 zsz (hf 3 (by decide))
    exact fC rfl rfl 52 #[(.tmp 13), _] _ rfl #[vA, .bool true] (by simp only [List.map_toArray, List.map_cons, List.map_nil, r13]; rfl) (fun w => by kernel_rfl) _ (as_any (idxB9_any _ (aloneL s L) b w1 HAM.out (HP.out.bools.keep hS)) (congrArg (Value.int .i64) (idxB_none HFI.out))) hS (fun _ _ h => uS.trans h)
   ·intro f w1 hS hf aA hA
    have r14 := qA 14 4 hA sbPsn1 zsz (hf 4 (by decide))
    exact fV rfl rfl _ (ex_assign (.tmp 14) rfl r14) hS uS
  intro f u1 hS hf hap
  have h0 := eqL (hf 0 (by decide)) rfl
  have h1 := eqL (hf 1 (by decide)) rfl
  have h2 := eqL (hf 2 (by decide)) rfl
  have h3 := eqL (hf 3 (by decide)) rfl
  have h4 := eqL (hf 4 (by decide)) rfl
  have h5 := eqL (hf 5 (by decide)) rfl
  clear hf hap
  clear zsz z0
  subst ha0
  simp only [slotsPsn1, putAll, h0, h1, h2, h3, h4, h5, Act.put, List.setIfInBounds_toArray, List.set_cons_zero, List.set_cons_succ]
  clear h0 h1 h2 h3 h4 h5
  refine tl_nil ?_
  replace HP := Lib.hid (HP.out.keep hS)
  replace HB := Lib.hid (HB.out.trans (hS.mono HB.out.size))
  clear hS
  go_upto_region 2 with fail
  refine wp_act (fun a0 ha0 => ?_)
  have zsz : a0.tmps.size = 81 := by rw [ha0]; rfl
  have z3 : a0.eval (.tmp 3) = .int .i64 ((-1)) := by rw [ha0]; rfl
  refine wrO [] slotsPsn2 waitPsn2 [Fct.val Flz 0 (.int .i64 ((-1))), Fct.val Flz 1 (.bool true)] (fun w' => Below u1.heap.size u1 w') _ 2 0 chkPsn2 (by kernel_rfl) (by kernel_rfl) (by kernel_rfl) (by decide) (Below.refl _ _) ?_ ?_
  ·refine lt_s (lt_s (lt_0) ?_) ?_
   ·intro f w1 hS hf aA hA
    have r3 := qO 3 hA z3
    exact fV rfl rfl _ (ex_move (.tmp 3) rfl r3) hS uS
   ·intro f w1 hS hf aA hA
    have r15 := qA 15 0 hA sbPsn2 zsz (hf 0 (by decide))
    exact fV rfl rfl _ (Eq.trans (ex_int .lss _ _ (.tmp 15) _ rfl .i64 ((-1)) 0 r15 rfl (.bool (decide (((-1) : Int) < (0 : Int)))) (fun _ => rfl)) (by rw [(by decide : decide (((-1) : Int) < (0 : Int)) = true)])) hS uS
  intro f u2 hS hf hap
  have h0 := eqL (hf 0 (by decide)) rfl
  have h1 := eqL (hf 1 (by decide)) rfl
  clear hf hap
  clear zsz z3
  subst ha0
  simp only [slotsPsn2, putAll, h0, h1, Act.put, List.setIfInBounds_toArray, List.set_cons_zero, List.set_cons_succ]
  clear h0 h1
  refine tl_nil ?_
  replace HP := Lib.hid (HP.out.keep hS)
  replace HB := Lib.hid (HB.out.trans (hS.mono HB.out.size))
  clear hS
  have HSN : Hid (stepP s (L, P, M) = none) := Lib.hid (step_none HFI.out)
  go_wp2_with fail
  go_ret
  have HSQ : stepQ s (L, P, M) = (L, P, M) := by unfold stepQ; rw [HSN.out]; rfl
  exact ⟨⟨by rw [HSN.out]; rfl, vL, vA, vP, vM, by rw [HSQ]; exact HP.out⟩, HB.out⟩
 ·rename_i i
  go_upto_region 1 with fail
  refine wp_act (fun a0 ha0 => ?_)
  have zsz : a0.tmps.size = 81 := by rw [ha0]; rfl
  have z0 : a0.eval (.tmp 0) = .pointer (some ⟨g, 0, none⟩) := by rw [ha0]; rfl
  refine wrO [] slotsPsn1 waitPsn1 [Fct.val Flz 0 (.pointer (some ⟨g, 0, none⟩)), Fct.val Flz 1 (.pointer (some ⟨g, 0, none⟩)), Fct.val Flz 2 (.pointer (some ⟨g, 2, none⟩)), Fct.val Flz 3 (vA), Fct.val Flz 4 (.int .i64 ((i : Int))), Fct.val Flz 5 (.int .i64 ((i : Int)))] (fun w' => Below u0.heap.size u0 w') _ 6 0 chkPsn1 (by kernel_rfl) (by kernel_rfl) (by kernel_rfl) (by decide) (Below.refl _ _) ?_ ?_
  ·refine lt_s (lt_s (lt_s (lt_s (lt_s (lt_s (lt_0) ?_) ?_) ?_) ?_) ?_) ?_
   ·intro f w1 hS hf aA hA
    have r0 := qO 0 hA z0
    exact fV rfl rfl _ (ex_move (.tmp 0) rfl r0) hS uS
   ·intro f w1 hS hf aA hA
    have r10 := qA 10 0 hA sbPsn1 zsz (hf 0 (by decide))
    exact fV rfl rfl _ (ex_nil (.tmp 10) rfl g 0 r10) hS uS
   ·intro f w1 hS hf aA hA
    have r11 := qA 11 1 hA sbPsn1 zsz (hf 1 (by decide))
    exact fV rfl rfl _ (fldP1 (.tmp 11) rfl g r11) hS uS
   ·intro f w1 hS hf aA hA
    have r12 := qA 12 2 hA sbPsn1 zsz (hf 2 (by decide))
    exact fV rfl rfl _ (ex_load1 64 (.tmp 12) rfl ⟨g, 2, none⟩ r12 (fun _ => by kernel_rfl) ((HP.out.box.keepB hS).cellv rfl)) hS uS
   ·intro f w1 hS hf aA hA
    have r13 := qA 13 3 hA sbPsn1 zsz (hf 3 (by decide))
    exact fC rfl rfl 52 #[(.tmp 13), _] _ rfl #[vA, .bool true] (by simp only [List.map_toArray, List.map_cons, List.map_nil, r13]; rfl) (fun w => by kernel_rfl) _ (as_any (idxB9_any _ (aloneL s L) b w1 HAM.out (HP.out.bools.keep hS)) (congrArg (Value.int .i64) (idxB_some HFI.out))) hS (fun _ _ h => uS.trans h)
   ·intro f w1 hS hf aA hA
    have r14 := qA 14 4 hA sbPsn1 zsz (hf 4 (by decide))
    exact fV rfl rfl _ (ex_assign (.tmp 14) rfl r14) hS uS
  intro f u1 hS hf hap
  have h0 := eqL (hf 0 (by decide)) rfl
  have h1 := eqL (hf 1 (by decide)) rfl
  have h2 := eqL (hf 2 (by decide)) rfl
  have h3 := eqL (hf 3 (by decide)) rfl
  have h4 := eqL (hf 4 (by decide)) rfl
  have h5 := eqL (hf 5 (by decide)) rfl
  clear hf hap
  clear zsz z0
  subst ha0
  simp only [slotsPsn1, putAll, h0, h1, h2, h3, h4, h5, Act.put, List.setIfInBounds_toArray, List.set_cons_zero, List.set_cons_succ]
  clear h0 h1 h2 h3 h4 h5
  refine tl_nil ?_
  replace HP := Lib.hid (HP.out.keep hS)
  replace HB := Lib.hid (HB.out.trans (hS.mono HB.out.size))
  clear hS
  go_upto_region 2 with fail
  refine wp_act (fun a0 ha0 => ?_)
  have zsz : a0.tmps.size = 81 := by rw [ha0]; rfl
  have z3 : a0.eval (.tmp 3) = .int .i64 ((i : Int)) := by rw [ha0]; rfl
  refine wrO [] slotsPsn2 waitPsn2 [Fct.val Flz 0 (.int .i64 ((i : Int))), Fct.val Flz 1 (.bool false)] (fun w' => Below u1.heap.size u1 w') _ 2 0 chkPsn2 (by kernel_rfl) (by kernel_rfl) (by kernel_rfl) (by decide) (Below.refl _ _) ?_ ?_
  ·refine lt_s (lt_s (lt_0) ?_) ?_
   ·intro f w1 hS hf aA hA
    have r3 := qO 3 hA z3
    exact fV rfl rfl _ (ex_move (.tmp 3) rfl r3) hS uS
   ·intro f w1 hS hf aA hA
    have r15 := qA 15 0 hA sbPsn2 zsz (hf 0 (by decide))
    exact fV rfl rfl _ (Eq.trans (ex_int .lss _ _ (.tmp 15) _ rfl .i64 ((i : Int)) 0 r15 rfl (.bool (decide (((i : Int)) < (0 : Int)))) (fun _ => rfl)) (by rw [(decide_eq_false (by omega : ¬ ((i : Int) < 0)))])) hS uS
  intro f u2 hS hf hap
  have h0 := eqL (hf 0 (by decide)) rfl
  have h1 := eqL (hf 1 (by decide)) rfl
  clear hf hap
  clear zsz z3
  subst ha0
  simp only [slotsPsn2, putAll, h0, h1, Act.put, List.setIfInBounds_toArray, List.set_cons_zero, List.set_cons_succ]
  clear h0 h1
  refine tl_nil ?_
  replace HP := Lib.hid (HP.out.keep hS)
  replace HB := Lib.hid (HB.out.trans (hS.mono HB.out.size))
  clear hS
  obtain ⟨hi, hpu⟩ := fst_lt HFI.out
  have HST : Hid (stepP s (L, P, M) = some (takeP s (L, P, M) L[i])) := Lib.hid (step_some (q := (L, P, M)) HFI.out hi)
  obtain ⟨gc, cap, hgv, hgb, hgl, hel⟩ := HP.out.cells.el hi
  obtain ⟨c, hc⟩ : ∃ c, L[i] = c := ⟨_, rfl⟩
  rw [hc] at hel hpu HST
  obtain ⟨x, hx⟩ : ∃ x, c.2.1 = x := ⟨_, rfl⟩
  have HXX := Lib.hid hx
  have HGV := Lib.hid hgv
  have HEL := Lib.hid hel
  have HPU := Lib.hid hpu
  have HLP := Lib.hid HP.out.plus.lt
  have HLM := Lib.hid HP.out.minus.lt
  clear hgv hgb hgl hel hpu hc hx
  by_cases hc1 : c.1 = 1
  ·have HC1 : Hid ((c.1 == 1) = true) := Lib.hid (by rw [hc1]; rfl)
   have HTK : Hid (takeP s (L, P, M) c = (layT takeC s x L, P ++ [x], M)) := Lib.hid (by unfold takeP; rw [if_pos hc1, HXX.out])
   have HU2 : Hid (∀ k, Value.ownBlock vP = some k → k < u2.heap.size) := HLP
   have HU3 : Hid (∀ k, Value.ownBlock vM = some k → k < u2.heap.size) := HLM
   go_upto_region 4 with fail
   refine wp_act (fun a0 ha0 => ?_)
   have zsz : a0.tmps.size = 81 := by rw [ha0]; rfl
   have z0 : a0.eval (.tmp 0) = .pointer (some ⟨g, 0, none⟩) := by rw [ha0]; rfl
   have z3 : a0.eval (.tmp 3) = .int .i64 ((i : Int)) := by rw [ha0]; rfl
   refine wrO [] slotsPstt4 waitPstt4 [Fct.val Flz 0 (.pointer (some ⟨g, 0, none⟩)), Fct.val Flz 1 (.pointer (some ⟨g, 0, none⟩)), Fct.val Flz 2 (.pointer (some ⟨g, 0, none⟩)), Fct.val Flz 3 (.pointer (some ⟨g, 1, none⟩)), Fct.val Flz 4 (vL), Fct.val Flz 5 (.int .i64 ((i : Int))), Fct.val Flz 6 (.pointer (some ((⟨gc, 0, none⟩ : Addr).add (i * 65)))), Fct.val Flz 7 (aggC c), Fct.val Flz 8 (.tuple #[.agg (encU x).toArray, .bool true, .bool true]), Fct.val Flz 9 (.tuple #[.agg (encU x).toArray, .bool true, .bool true]), Fct.val Flz 10 (.agg (encU x).toArray), Fct.val Flz 11 (.bool true), Fct.val Flz 12 (.bool true), Fct.obj 13 (fun v w => ∃ g, v = .pointer (some ⟨g, 0, none⟩) ∧ u2.heap.size ≤ g ∧ Has w g 42 (encU zS)) (fun _ _ _ ⟨g, a, b, c⟩ he => ⟨g, a, b, c.flz he (by decide)⟩)] (fun w' => Below u2.heap.size u2 w') _ 14 3 chkPstt4 (by kernel_rfl) (by kernel_rfl) (by kernel_rfl) (by decide) (Below.refl _ _) ?_ ?_
   ·refine lt_s (lt_s (lt_s (lt_s (lt_s (lt_s (lt_s (lt_s (lt_s (lt_s (lt_s (lt_s (lt_s (lt_s (lt_0) ?_) ?_) ?_) ?_) ?_) ?_) ?_) ?_) ?_) ?_) ?_) ?_) ?_) ?_
    ·intro f w1 hS hf aA hA
     have r0 := qO 0 hA z0
     exact fV rfl rfl _ (ex_move (.tmp 0) rfl r0) hS uS
    ·intro f w1 hS hf aA hA
     have r18 := qA 18 0 hA sbPstt4 zsz (hf 0 (by decide))
     exact fV rfl rfl _ (ex_nil (.tmp 18) rfl g 0 r18) hS uS
    ·intro f w1 hS hf aA hA
     have r19 := qA 19 1 hA sbPstt4 zsz (hf 1 (by decide))
     exact fV rfl rfl _ (fldP0 (.tmp 19) rfl g r19) hS uS
    ·intro f w1 hS hf aA hA
     have r20 := qA 20 2 hA sbPstt4 zsz (hf 2 (by decide))
     exact fV rfl rfl _ (fldT1 28 (Or.inl rfl) (.tmp 20) rfl g r20) hS uS
    ·intro f w1 hS hf aA hA
     have r21 := qA 21 3 hA sbPstt4 zsz (hf 3 (by decide))
     exact fV rfl rfl _ (ex_load1 26 (.tmp 21) rfl ⟨g, 1, none⟩ r21 (fun _ => by kernel_rfl) ((HP.out.box.keepB hS).cellv rfl)) hS uS
    ·intro f w1 hS hf aA hA
     have r3 := qO 3 hA z3
     exact fV rfl rfl _ (ex_move (.tmp 3) rfl r3) hS uS
    ·intro f w1 hS hf aA hA
     have r22 := qA 22 4 hA sbPstt4 zsz (hf 4 (by decide))
     have r23 := qA 23 5 hA sbPstt4 zsz (hf 5 (by decide))
     exact fV rfl rfl _ (ex_indexS 26 47 (.tmp 22) (.tmp 23) rfl (⟨gc, 0, none⟩ : Addr) L.length cap i 65 (by kernel_rfl) (fun _ => by kernel_rfl) (Eq.trans r22 HGV.out) r23 hi) hS uS
    ·intro f w1 hS hf aA hA
     have r24 := qA 24 6 hA sbPstt4 zsz (hf 6 (by decide))
     exact fV rfl rfl _ (ex_loadR 47 (.tmp 24) rfl ((⟨gc, 0, none⟩ : Addr).add (i * 65)) r24 (fun _ => by kernel_rfl) (encC c) (by rw [encC_len]; kernel_rfl) (HEL.out w1 hS.block)) hS uS
    ·intro f w1 hS hf aA hA
     have r25 := qA 25 7 hA sbPstt4 zsz (hf 7 (by decide))
     exact fC rfl rfl 53 #[(.tmp 25)] _ rfl #[aggC c] (mp1 r25) (fun w => by kernel_rfl) _ (as_any (pure_any c w1 (HL.out.keep (HB.out.trans (hS.mono HB.out.size)) HSZ.out)) ((pureV_on HPU.out).trans (by rw [HC1.out, HXX.out]))) hS (fun _ _ h => uS.trans h)
    ·intro f w1 hS hf aA hA
     have r26 := qA 26 8 hA sbPstt4 zsz (hf 8 (by decide))
     exact fV rfl rfl _ (ex_move (.tmp 26) rfl r26) hS uS
    ·intro f w1 hS hf aA hA
     have r17 := qA 17 9 hA sbPstt4 zsz (hf 9 (by decide))
     exact fV rfl rfl _ (ex_extract (.tmp 17) 0 rfl r17 rfl) hS uS
    ·intro f w1 hS hf aA hA
     have r17 := qA 17 9 hA sbPstt4 zsz (hf 9 (by decide))
     exact fV rfl rfl _ (ex_extract (.tmp 17) 1 rfl r17 rfl) hS uS
    ·intro f w1 hS hf aA hA
     have r17 := qA 17 9 hA sbPstt4 zsz (hf 9 (by decide))
     exact fV rfl rfl _ (ex_extract (.tmp 17) 2 rfl r17 rfl) hS uS
    ·intro f w1 hS hf aA hA
     exact flw_wp rfl rfl (fun K hK => wp_alloc_row 42 rfl (.agg (encU zS).toArray) (fun w => by kernel_rfl) (hK _ _ (hS.alloc hS.size _) (Flz.al _ _) ⟨_, uS, hS.size, Has.made' _ _ _ _ rfl⟩))
   intro f u4 hS hf hap
   have h0 := eqL (hf 0 (by decide)) rfl
   have h1 := eqL (hf 1 (by decide)) rfl
   have h2 := eqL (hf 2 (by decide)) rfl
   have h3 := eqL (hf 3 (by decide)) rfl
   have h4 := eqL (hf 4 (by decide)) rfl
   have h5 := eqL (hf 5 (by decide)) rfl
   have h6 := eqL (hf 6 (by decide)) rfl
   have h7 := eqL (hf 7 (by decide)) rfl
   have h8 := eqL (hf 8 (by decide)) rfl
   have h9 := eqL (hf 9 (by decide)) rfl
   have h10 := eqL (hf 10 (by decide)) rfl
   have h11 := eqL (hf 11 (by decide)) rfl
   have h12 := eqL (hf 12 (by decide)) rfl
   obtain ⟨b4_13, h13, hgb13, hhb13⟩ := hf 13 (by decide)
   clear hf hap
   clear zsz z0 z3
   subst ha0
   simp only [slotsPstt4, putAll, h0, h1, h2, h3, h4, h5, h6, h7, h8, h9, h10, h11, h12, h13, Act.put, List.setIfInBounds_toArray, List.set_cons_zero, List.set_cons_succ]
   clear h0 h1 h2 h3 h4 h5 h6 h7 h8 h9 h10 h11 h12 h13
   refine tl_store rfl (by kernel_rfl) 42 (.tmp 4) (.tmp 27) rfl b4_13 (encU x) _ rfl rfl _ hhb13 (by rw [encU_len]; kernel_rfl) (by simp only [encU_len]) (encU_all _) ?_
   intro u5 hp13 hbl hot
   replace hS := hS.trans (hbl _ hgb13)
   clear hbl hot hhb13
   try simp only [Act.put]
   refine tl_pure rfl (by kernel_rfl) (.bool true) (ex_assign (.tmp 28) rfl rfl) ?_
   try simp only [Act.put, List.setIfInBounds_toArray, List.set_cons_zero, List.set_cons_succ]
   refine tl_pure rfl (by kernel_rfl) (.bool true) (ex_assign (.tmp 29) rfl rfl) ?_
   try simp only [Act.put, List.setIfInBounds_toArray, List.set_cons_zero, List.set_cons_succ]
   refine tl_nil ?_
   replace HP := Lib.hid (HP.out.keep hS)
   have HBW := Lib.hid HB.out.size
   replace HB := Lib.hid (HB.out.trans (hS.mono HB.out.size))
   clear hS
   have HGU : Hid (u2.heap.size ≤ b4_13) := Lib.hid hgb13
   have HGb4_13 : Hid (w.heap.size ≤ b4_13) := Lib.hid (Nat.le_trans HBW.out hgb13)
   have HX_b4_13 : Hid (Has u5 b4_13 42 (encU x)) := Lib.hid hp13
   clear hp13 hgb13
   clear HBW
   go_upto_region 5 with fail
   refine wp_act (fun a0 ha0 => ?_)
   have zsz : a0.tmps.size = 81 := by rw [ha0]; rfl
   refine wrO [] slotsPstt5 waitPstt5 [Fct.val Flz 0 (.func (.func 36) #[] #[])] (fun w' => Below u5.heap.size u5 w') _ 1 0 chkPstt5 (by kernel_rfl) (by kernel_rfl) (by kernel_rfl) (by decide) (Below.refl _ _) ?_ ?_
   ·refine lt_s (lt_0) ?_
    ·intro f w1 hS hf aA hA
     exact fV rfl rfl (.func (.func 36) #[] #[]) (ex_assign _ rfl rfl) hS uS
   intro f u6 hS hf hap
   have h0 := eqL (hf 0 (by decide)) rfl
   clear hf hap
   clear zsz
   subst ha0
   simp only [slotsPstt5, putAll, h0, Act.put, List.setIfInBounds_toArray, List.set_cons_zero, List.set_cons_succ]
   clear h0
   refine tl_nil ?_
   replace HP := Lib.hid (HP.out.keep hS)
   replace HX_b4_13 := Lib.hid (HX_b4_13.out.keepB hS)
   replace HB := Lib.hid (HB.out.trans (hS.mono HB.out.size))
   clear hS
   go_upto_region 6 with fail
   refine wp_act (fun a0 ha0 => ?_)
   have zsz : a0.tmps.size = 81 := by rw [ha0]; rfl
   have z5 : a0.eval (.tmp 5) = .bool true := by rw [ha0]; rfl
   refine wrO [] slotsPstt6 waitPstt6 [Fct.val Flz 0 (.bool true)] (fun w' => Below u6.heap.size u6 w') _ 1 0 chkPstt6 (by kernel_rfl) (by kernel_rfl) (by kernel_rfl) (by decide) (Below.refl _ _) ?_ ?_
   ·refine lt_s (lt_0) ?_
    ·intro f w1 hS hf aA hA
     have r5 := qO 5 hA z5
     exact fV rfl rfl _ (ex_move (.tmp 5) rfl r5) hS uS
   intro f u7 hS hf hap
   have h0 := eqL (hf 0 (by decide)) rfl
   clear hf hap
   clear zsz z5
   subst ha0
   simp only [slotsPstt6, putAll, h0, Act.put, List.setIfInBounds_toArray, List.set_cons_zero, List.set_cons_succ]
   clear h0
   refine tl_nil ?_
   replace HP := Lib.hid (HP.out.keep hS)
   replace HX_b4_13 := Lib.hid (HX_b4_13.out.keepB hS)
   replace HB := Lib.hid (HB.out.trans (hS.mono HB.out.size))
   clear hS
   have HKD : Hid (∀ k, Value.ownBlock vP = some k → k < u7.drew.heap.size) := Lib.hid (fun k hk => by have := HU2.out k hk; have := HGU.out; have := HX_b4_13.out.lt; show k < u7.heap.size; omega)
   have HQ7 : Hid (P.length + 1 ≤ 1000000) := Lib.hid (by have := HQ.out; omega)
   have HB7 : Hid (Below w.heap.size w u7) := HB
   have HP7 : Hid (PeS b u7.drew g s L (aloneL s L) P M vL vA vP vM) := Lib.hid (HP.out.keep (Below.refl _ _).drew)
   have HX7 : Hid (Has u7.drew b4_13 42 (encU x)) := Lib.hid (HX_b4_13.out.keepB (Below.refl _ _).drew)
   have HSG : Hid (∀ w1, SPx b u7.drew vP P w1 → Has w1 g 66 [.int .u64 (s : Int), vL, vA, vP, vM]) := Lib.hid (fun w1 h => h.has HP7.out.box (fun k hk => (HP7.out.plus.blkT k hk).ne HP7.out.box.blkT (by decide)))
   have HSX : Hid (∀ w1, SPx b u7.drew vP P w1 → Has w1 b4_13 42 (encU x)) := Lib.hid (fun w1 h => h.has HX7.out (fun k hk e => by have := HU2.out k hk; have := HGU.out; omega))
   have HBU : Hid (b ≤ u7.drew.heap.size) := Lib.hid (Nat.le_trans HP7.out.lo (Nat.le_of_lt HP7.out.box.lt))
   clear HP HX_b4_13 HB
   go_upto_region 7 with fail
   refine wp_act (fun a0 ha0 => ?_)
   have zsz : a0.tmps.size = 81 := by rw [ha0]; rfl
   have z0 : a0.eval (.tmp 0) = .pointer (some ⟨g, 0, none⟩) := by rw [ha0]; rfl
   have z4 : a0.eval (.tmp 4) = .pointer (some ⟨b4_13, 0, none⟩) := by rw [ha0]; rfl
   refine wp_region_flw (E := (EPx b vP P x)) [] slotsPstt7 waitPstt7 [Fct.val (EPx b vP P x) 0 (.pointer (some ⟨g, 0, none⟩)), Fct.val (EPx b vP P x) 1 (.pointer (some ⟨g, 0, none⟩)), Fct.val (EPx b vP P x) 2 (.pointer (some ⟨g, 0, none⟩)), Fct.val (EPx b vP P x) 3 (.pointer (some ⟨g, 3, none⟩)), Fct.val (EPx b vP P x) 4 (vP), Fct.val (EPx b vP P x) 5 (.agg (encU x).toArray), Fct.obj 6 (fun v w => ∃ zz, v = .slice (some ⟨zz, 0, none⟩) 1 1 ∧ u7.drew.heap.size ≤ zz ∧ Has w zz 42 (encU x)) (fun _ _ _ ⟨zz, a, b⟩ he => ⟨zz, a, ⟨b.1, he.1.has b.2 (fun k hk e => by subst e; exact absurd (HKD.out _ hk) (Nat.not_lt.2 b.1))⟩⟩), Fct.obj 7 (fun v w => RowS b w v (P ++ [x]) ∧ ∀ k, Value.ownBlock v = some k → Value.ownBlock vP = some k ∨ u7.drew.heap.size ≤ k) (fun _ _ _ h he => ⟨(he.2 _).2 h.1, h.2⟩)] (fun w1 => SPx b u7.drew vP P w1) _ 8 3 chkPstt7 (by kernel_rfl) (by kernel_rfl) (by kernel_rfl) (by kernel_rfl) (by decide) ⟨Grw.refl _ _, HP7.out.plus⟩ ?_ ?_
   ·refine lt_s (lt_s (lt_s (lt_s (lt_s (lt_s (lt_s (lt_s (lt_0) ?_) ?_) ?_) ?_) ?_) ?_) ?_) ?_
    ·intro f w1 hS hf
     generalize hA : putAll _ _ f = aA
     have r0 := qO 0 hA z0
     exact flw_val rfl rfl (.pointer (some ⟨g, 0, none⟩)) (ex_move (.tmp 0) rfl r0) hS (EPx.refl _) uS
    ·intro f w1 hS hf
     generalize hA : putAll _ _ f = aA
     have r0 := qO 0 hA z0
     exact flw_val rfl rfl (.pointer (some ⟨g, 0, none⟩)) (ex_move (.tmp 0) rfl r0) hS (EPx.refl _) uS
    ·intro f w1 hS hf
     generalize hA : putAll _ _ f = aA
     have r32 := qA 32 1 hA sbPstt7 zsz (hf 1 (by decide))
     exact flw_val rfl rfl (.pointer (some ⟨g, 0, none⟩)) (ex_nil (.tmp 32) rfl g 0 r32) hS (EPx.refl _) uS
    ·intro f w1 hS hf
     generalize hA : putAll _ _ f = aA
     have r33 := qA 33 2 hA sbPstt7 zsz (hf 2 (by decide))
     exact flw_val rfl rfl (.pointer (some ⟨g, 3, none⟩)) (fldP2 (.tmp 33) rfl g r33) hS (EPx.refl _) uS
    ·intro f w1 hS hf
     generalize hA : putAll _ _ f = aA
     have r34 := qA 34 3 hA sbPstt7 zsz (hf 3 (by decide))
     exact flw_val rfl rfl (vP) (ex_load1 23 (.tmp 34) rfl ⟨g, 3, none⟩ r34 (fun _ => by kernel_rfl) ((HSG.out _ hS).cellv rfl)) hS (EPx.refl _) uS
    ·intro f w1 hS hf
     generalize hA : putAll _ _ f = aA
     have r4 := qO 4 hA z4
     exact flw_val rfl rfl (.agg (encU x).toArray) (ex_loadR 42 (.tmp 4) rfl ⟨b4_13, 0, none⟩ r4 (fun _ => by kernel_rfl) (encU x) (by rw [encU_len]; kernel_rfl) ((HSX.out _ hS).part (encU x) 0 (encU_all' x))) hS (EPx.refl _) uS
    ·intro f w1 hS hf
     generalize hA : putAll _ _ f = aA
     have r36 := qA 36 5 hA sbPstt7 zsz (hf 5 (by decide))
     exact flw_wp rfl rfl (fun K hK => wp_one_su 23 42 elSum (.tmp 36) rfl x r36 (hK _ _ (hS.alloc _) (EPx.al _ _) ⟨_, uS, hS.size, Has.made' _ _ _ _ rfl⟩))
    ·intro f w1 hS hf
     generalize hA : putAll _ _ f = aA
     have r35 := qA 35 4 hA sbPstt7 zsz (hf 4 (by decide))
     obtain ⟨x37, hx37, hr37⟩ := hf 6 (by decide)
     have e37 := pA 37 6 hA sbPstt7 (by kernel_rfl) zsz rfl hx37
     exact flw_wp rfl rfl (fun K hK => wp_app_su (.tmp 35) (.tmp 37) rfl b vP _ r35 hS.2 x37 x e37 hr37.2 HQ7.out (Nat.le_trans HBU.out hS.size) (fun vn w2 h1 h2 h3 => hK _ _ (hS.app h2) h2 ⟨by rw [updF_self]; exact h1, fun k hk => by rw [updF_self] at hk; exact (h3 k hk).imp_right (Nat.le_trans hS.size)⟩))
   intro f u8 hS hf hap
   have h0 := eqL (hf 0 (by decide)) rfl
   have h1 := eqL (hf 1 (by decide)) rfl
   have h2 := eqL (hf 2 (by decide)) rfl
   have h3 := eqL (hf 3 (by decide)) rfl
   have h4 := eqL (hf 4 (by decide)) rfl
   have h5 := eqL (hf 5 (by decide)) rfl
   obtain ⟨v7_6, h6, hu6⟩ := hf 6 (by decide)
   have HU7_6 := Lib.hid hu6
   clear hu6
   obtain ⟨vn, h7, hrn, hkn⟩ : ∃ v, f 7 = v ∧ RowS b u8 v (P ++ [x]) ∧ ∀ k, Value.ownBlock v = some k → Value.ownBlock vP = some k ∨ u7.drew.heap.size ≤ k := ⟨_, rfl, (hf 7 (by decide)).1, (hf 7 (by decide)).2⟩
   clear hf hap
   clear zsz z0 z4
   subst ha0
   simp only [slotsPstt7, putAll, h0, h1, h2, h3, h4, h5, h6, h7, Act.put, List.setIfInBounds_toArray, List.set_cons_zero, List.set_cons_succ]
   clear h0 h1 h2 h3 h4 h5 h6 h7
   have HA9 := Lib.hid (HP7.out.appP hrn hS.1 hkn)
   have HX9 := Lib.hid (HSX.out _ hS)
   have HB9 := Lib.hid ((HB7.out.trans ((Below.refl u7.heap.size u7).drew.mono HB7.out.size)).grown hS.1 HB7.out.size (fun k hk => Nat.le_trans HBB.out (HP7.out.plus.base k hk)))
   clear hrn hkn hS HP7 HX7 HSG HSX HB7 HU7_6
   try simp only [Act.put, List.setIfInBounds_toArray, List.set_cons_zero, List.set_cons_succ]
   refine tl_pure rfl (by kernel_rfl) (.pointer (some ⟨g, 0, none⟩)) (ex_nil (.tmp 31) rfl g 0 rfl) ?_
   try simp only [Act.put, List.setIfInBounds_toArray, List.set_cons_zero, List.set_cons_succ]
   refine tl_pure rfl (by kernel_rfl) (.pointer (some ⟨g, 3, none⟩)) (fldP2 (.tmp 39) rfl g rfl) ?_
   try simp only [Act.put, List.setIfInBounds_toArray, List.set_cons_zero, List.set_cons_succ]
   refine tl_step rfl rfl (fun K hK => wp_store_at 23 (by kernel_rfl) (.tmp 40) (.tmp 38) rfl g 3 66 _ HA9.out.box (by simp) rfl vn (Us.oneC (OwnU.us HA9.out.plus)) rfl (fun u10 hp hbl hot => hK _ _ ?_))
   have HP := Lib.hid (HA9.out.store hp hot)
   have HX_b4_13 : Hid (Has u10 b4_13 42 (encU x)) := Lib.hid ((hot _ (HX9.out.blkT.ne HA9.out.box.blkT (by decide))).trans HX9.out)
   have HB := Lib.hid (HB9.out.trans (hbl _ (Nat.le_trans HBB.out HA9.out.lo)))
   clear hp hbl hot HA9 HX9 HB9
   refine tl_nilN ?_
   try simp only [Act.put]
   have HWL := Lib.hid HP.out.cells.lt
   have HWA : Hid (∀ k, Value.ownBlock vA = some k → k < u10.heap.size) := Lib.hid (fun k hk => by obtain ⟨_, _, hq⟩ := HP.out.bools.blkT k hk; exact (Array.getElem?_eq_some_iff.1 hq).1)
   have HVB := Lib.hid HP.out.bools.base
   go_upto_region 10 with fail
   refine wp_act (fun a0 ha0 => ?_)
   have zsz : a0.tmps.size = 81 := by rw [ha0]; rfl
   have z0 : a0.eval (.tmp 0) = .pointer (some ⟨g, 0, none⟩) := by rw [ha0]; rfl
   have z4 : a0.eval (.tmp 4) = .pointer (some ⟨b4_13, 0, none⟩) := by rw [ha0]; rfl
   refine wrO [] slotsPstt10 waitPstt10 [Fct.val Flz 0 (.pointer (some ⟨g, 0, none⟩)), Fct.val Flz 1 (.agg (encU x).toArray), Fct.obj 2 (fun v w => ∃ zz, v = zz ∧ InsF u10.heap.size w zz (places s ((L).length : Int) x)) (fun _ _ _ ⟨zz, a, b⟩ he => ⟨zz, a, b.flz he⟩), Fct.val Flz 3 (.int .i64 (((places s ((L).length : Int) x).length : Int))), Fct.val Flz 4 (.int .i64 0)] (fun w' => Below u10.heap.size u10 w') _ 5 0 chkPstt10 (by kernel_rfl) (by kernel_rfl) (by kernel_rfl) (by decide) (Below.refl _ _) ?_ ?_
   ·refine lt_s (lt_s (lt_s (lt_s (lt_s (lt_0) ?_) ?_) ?_) ?_) ?_
    ·intro f w1 hS hf aA hA
     have r0 := qO 0 hA z0
     exact fV rfl rfl _ (ex_move (.tmp 0) rfl r0) hS uS
    ·intro f w1 hS hf aA hA
     have r4 := qO 4 hA z4
     exact fV rfl rfl _ (ex_loadR 42 (.tmp 4) rfl ⟨b4_13, 0, none⟩ r4 (fun _ => by kernel_rfl) (encU x) (by rw [encU_len]; kernel_rfl) ((HX_b4_13.out.keepB hS).part (encU x) 0 (encU_all' x))) hS uS
    ·intro f w1 hS hf aA hA
     have r51 := qA 51 0 hA sbPstt10 zsz (hf 0 (by decide))
     have r52 := qA 52 1 hA sbPstt10 zsz (hf 1 (by decide))
     exact fC rfl rfl 54 #[(.tmp 51), (.tmp 52)] _ rfl #[.pointer (some ⟨g, 0, none⟩), .agg (encU x).toArray] (mp2 r51 r52) (fun w => by kernel_rfl) _ (placesP_in b g s L (aloneL s L) (P ++ [x]) (M) vL vA vn vM x w1 HSD.out (HL.out.keep (HB.out.trans (hS.mono HB.out.size)) HSZ.out) (HP.out.keep hS) u10.heap.size hS.size) hS (fun _ _ ⟨zz, a, b⟩ => ⟨zz, uS.trans a, b⟩)
    ·intro f w1 hS hf aA hA
     obtain ⟨x53, hx53, hr53⟩ := hf 2 (by decide)
     have e53 := pA 53 2 hA sbPstt10 (by kernel_rfl) zsz rfl hx53
     obtain ⟨q9, c9, hv9, _⟩ := hr53.len
     exact fV rfl rfl _ (ex_len 38 3 (.tmp 53) rfl (by kernel_rfl) q9 (places s ((L).length : Int) x).length c9 (e53.trans hv9)) hS uS
    ·intro f w1 hS hf aA hA
     exact fV rfl rfl (.int .i64 0) (ex_move _ rfl rfl) hS uS
   intro f u12 hS hf hap
   have h0 := eqL (hf 0 (by decide)) rfl
   have h1 := eqL (hf 1 (by decide)) rfl
   obtain ⟨v10_2, h2, hu2⟩ := hf 2 (by decide)
   have HU10_2 := Lib.hid hu2
   clear hu2
   have h3 := eqL (hf 3 (by decide)) rfl
   have h4 := eqL (hf 4 (by decide)) rfl
   clear hf hap
   clear zsz z0 z4
   subst ha0
   simp only [slotsPstt10, putAll, h0, h1, h2, h3, h4, Act.put, List.setIfInBounds_toArray, List.set_cons_zero, List.set_cons_succ]
   clear h0 h1 h2 h3 h4
   refine tl_nil ?_
   replace HP := Lib.hid (HP.out.keep hS)
   replace HX_b4_13 := Lib.hid (HX_b4_13.out.keepB hS)
   replace HB := Lib.hid (HB.out.trans (hS.mono HB.out.size))
   clear hS
   have HPL : Hid (∀ i (h : i < (places s ((L).length : Int) x).length), ∃ k : Nat, (places s ((L).length : Int) x)[i] = (k : Int) ∧ k < L.length) := Lib.hid (fun i h => place_lt h)
   have HALL : Hid (layTo takeC (places s ((L).length : Int) x) x L (places s ((L).length : Int) x).length = layT takeC s x L) := Lib.hid (layTo_all takeC s x L)
   have hPLn : (places s ((L).length : Int) x).length ≤ 3 := places_small _ _ _
   generalize places s ((L).length : Int) x = PL at *
   have HP0 : Hid (PeS b u12 g s (layTo takeC PL x L 0) (aloneL s (layTo takeC PL x L 0)) (P ++ [x]) (M) vL vA vn vM) := HP
   go_wp2_with fail
   go_loopw [55] (fun vi wr => ∃ i : Nat, i ≤ PL.length ∧ vi = .int .i64 i ∧ PeS b wr g s (layTo takeC PL x L i) (aloneL s (layTo takeC PL x L i)) (P ++ [x]) (M) vL vA vn vM ∧ Has wr b4_13 42 (encU x) ∧ InsF u10.heap.size wr v10_2 PL ∧ Below w.heap.size w wr) (fun vi _ => PL.length - (intOf vi).toNat)
   case atStart => exact ⟨0, by omega, rfl, HP0.out, HX_b4_13.out, HU10_2.out, HB.out⟩
   case round =>
    clear HP HP0 HX_b4_13 HU10_2 HB
    rename_i wr
    obtain ⟨i, hi, rfl, hp, hx1, hn, hB⟩ := hrel
    have HP := Lib.hid hp
    have HX_b4_13 := Lib.hid hx1
    have HN := Lib.hid hn
    have HB := Lib.hid hB
    clear hp hx1 hn hB
    by_cases hlt : i < PL.length
    ·obtain ⟨k, hpk, hkL⟩ := HPL.out i hlt
     have hkl : k < (layTo takeC PL x L i).length := by rw [layTo_len]; exact hkL
     have HNX : Hid (layTo takeC PL x L (i + 1) = (layTo takeC PL x L i).set k (takeC (layTo takeC PL x L i)[k] x)) := Lib.hid (layTo_succ takeC PL x L i hlt k hpk hkl)
     obtain ⟨pa, pc, hpv, hcell⟩ := HN.out.el hlt
     rw [hpk] at hcell
     have HCL := Lib.hid hcell
     have HPV := Lib.hid hpv
     have k3 : (i : Int) < (PL.length : Int) := by omega
     clear hcell hpv hpk
     go_upto_region 12 with fail
     refine wp_act (fun a0 ha0 => ?_)
     have zsz : a0.tmps.size = 81 := by rw [ha0]; rfl
     have z53 : a0.eval (.tmp 53) = v10_2 := by rw [ha0]; rfl
     have z55 : a0.eval (.tmp 55) = .int .i64 ((i : Int)) := by rw [ha0]; rfl
     refine wrO [] slotsPstt12 waitPstt12 [Fct.val Flz 0 (.pointer (some (pa.add (i * 1)))), Fct.val Flz 1 (.int .i64 ((k : Int))), Fct.val Flz 2 (.int .i64 ((k : Int)))] (fun w' => Below wr.heap.size wr w') _ 3 0 chkPstt12 (by kernel_rfl) (by kernel_rfl) (by kernel_rfl) (by decide) (Below.refl _ _) ?_ ?_
     ·refine lt_s (lt_s (lt_s (lt_0) ?_) ?_) ?_
      ·intro f w1 hS hf aA hA
       have r53 := qO 53 hA z53
       have r55 := qO 55 hA z55
       exact fV rfl rfl _ (ex_indexS 38 3 (.tmp 53) (.tmp 55) rfl pa PL.length pc i 1 (by kernel_rfl) (fun _ => by kernel_rfl) (Eq.trans r53 HPV.out) r55 hlt) hS uS
      ·intro f w1 hS hf aA hA
       have r57 := qA 57 0 hA sbPstt12 zsz (hf 0 (by decide))
       exact fV rfl rfl _ (ex_load1 3 (.tmp 57) rfl (pa.add (i * 1)) r57 (fun _ => by kernel_rfl) (HCL.out w1 hS.block)) hS uS
      ·intro f w1 hS hf aA hA
       have r58 := qA 58 1 hA sbPstt12 zsz (hf 1 (by decide))
       exact fV rfl rfl _ (ex_assign (.tmp 58) rfl r58) hS uS
     intro f u13 hS hf hap
     have h0 := eqL (hf 0 (by decide)) rfl
     have h1 := eqL (hf 1 (by decide)) rfl
     have h2 := eqL (hf 2 (by decide)) rfl
     clear hf hap
     clear zsz z53 z55
     subst ha0
     simp only [slotsPstt12, putAll, h0, h1, h2, Act.put, List.setIfInBounds_toArray, List.set_cons_zero, List.set_cons_succ]
     clear h0 h1 h2
     refine tl_nil ?_
     replace HP := Lib.hid (HP.out.keep hS)
     replace HX_b4_13 := Lib.hid (HX_b4_13.out.keepB hS)
     replace HN := Lib.hid (HN.out.keep hS)
     replace HB := Lib.hid (HB.out.trans (hS.mono HB.out.size))
     clear hS
     obtain ⟨gg, cap2, hgv, hgb, hgl, hel⟩ := HP.out.cells.el hkl
     have HGV2 := Lib.hid hgv
     have HEL2 := Lib.hid hel
     clear hgv hgb hgl hel
     go_upto_region 13 with fail
     have HST : Hid (Below u13.heap.size u13 u13.drew) := Lib.hid (Below.refl _ _).drew
     replace HP := Lib.hid (HP.out.keep HST.out)
     replace HX_b4_13 := Lib.hid (HX_b4_13.out.keepB HST.out)
     replace HN := Lib.hid (HN.out.keep HST.out)
     replace HB := Lib.hid (HB.out.trans (HST.out.mono HB.out.size))
     clear HST
     refine wp_act (fun a0 ha0 => ?_)
     have zsz : a0.tmps.size = 81 := by rw [ha0]; rfl
     have z0 : a0.eval (.tmp 0) = .pointer (some ⟨g, 0, none⟩) := by rw [ha0]; rfl
     have z9 : a0.eval (.tmp 9) = .int .i64 ((k : Int)) := by rw [ha0]; rfl
     have z7 : a0.eval (.tmp 7) = .func (.func 36) #[] #[] := by rw [ha0]; rfl
     have z4 : a0.eval (.tmp 4) = .pointer (some ⟨b4_13, 0, none⟩) := by rw [ha0]; rfl
     refine wrD [] slotsPstt13 waitPstt13 [Fct.val Flz 0 (.pointer (some ⟨g, 0, none⟩)), Fct.val Flz 1 (.pointer (some ⟨g, 0, none⟩)), Fct.val Flz 2 (.pointer (some ⟨g, 0, none⟩)), Fct.val Flz 3 (.pointer (some ⟨g, 1, none⟩)), Fct.val Flz 4 (vL), Fct.val Flz 5 (.int .i64 ((k : Int))), Fct.val Flz 6 (.func (.func 36) #[] #[]), Fct.val Flz 7 (.pointer (some ⟨g, 0, none⟩)), Fct.val Flz 8 (.pointer (some ⟨g, 0, none⟩)), Fct.val Flz 9 (.pointer (some ⟨g, 0, none⟩)), Fct.val Flz 10 (.pointer (some ⟨g, 1, none⟩)), Fct.val Flz 11 (vL), Fct.val Flz 12 (.int .i64 ((k : Int))), Fct.val Flz 13 (.pointer (some ((⟨gg, 0, none⟩ : Addr).add (k * 65)))), Fct.val Flz 14 (aggC (((layTo takeC PL x L i)[k]))), Fct.val Flz 15 (.agg (encU x).toArray), Fct.val Flz 16 (aggC (takeC (((layTo takeC PL x L i)[k])) x)), Fct.val Flz 17 (.pointer (some ((⟨gg, 0, none⟩ : Addr).add (k * 65))))] (fun w' => Below u13.drew.heap.size u13.drew w') _ 18 1 chkPstt13 (by kernel_rfl) (by kernel_rfl) (by kernel_rfl) (by kernel_rfl) (by decide) (Below.refl _ _) ?_ ?_
     ·refine lt_s (lt_s (lt_s (lt_s (lt_s (lt_s (lt_s (lt_s (lt_s (lt_s (lt_s (lt_s (lt_s (lt_s (lt_s (lt_s (lt_s (lt_s (lt_0) ?_) ?_) ?_) ?_) ?_) ?_) ?_) ?_) ?_) ?_) ?_) ?_) ?_) ?_) ?_) ?_) ?_) ?_
      ·intro f w1 hS hf aA hA
       have r0 := qO 0 hA z0
       exact fV rfl rfl _ (ex_move (.tmp 0) rfl r0) hS uS
      ·intro f w1 hS hf aA hA
       have r59 := qA 59 0 hA sbPstt13 zsz (hf 0 (by decide))
       exact fV rfl rfl _ (ex_nil (.tmp 59) rfl g 0 r59) hS uS
      ·intro f w1 hS hf aA hA
       have r60 := qA 60 1 hA sbPstt13 zsz (hf 1 (by decide))
       exact fV rfl rfl _ (fldP0 (.tmp 60) rfl g r60) hS uS
      ·intro f w1 hS hf aA hA
       have r61 := qA 61 2 hA sbPstt13 zsz (hf 2 (by decide))
       exact fV rfl rfl _ (fldT1 28 (Or.inl rfl) (.tmp 61) rfl g r61) hS uS
      ·intro f w1 hS hf aA hA
       have r62 := qA 62 3 hA sbPstt13 zsz (hf 3 (by decide))
       exact fV rfl rfl _ (ex_load1 26 (.tmp 62) rfl ⟨g, 1, none⟩ r62 (fun _ => by kernel_rfl) ((HP.out.box.keepB hS).cellv rfl)) hS uS
      ·intro f w1 hS hf aA hA
       have r9 := qO 9 hA z9
       exact fV rfl rfl _ (ex_move (.tmp 9) rfl r9) hS uS
      ·intro f w1 hS hf aA hA
       have r7 := qO 7 hA z7
       exact fV rfl rfl _ (ex_move (.tmp 7) rfl r7) hS uS
      ·intro f w1 hS hf aA hA
       have r0 := qO 0 hA z0
       exact fV rfl rfl _ (ex_move (.tmp 0) rfl r0) hS uS
      ·intro f w1 hS hf aA hA
       have r66 := qA 66 7 hA sbPstt13 zsz (hf 7 (by decide))
       exact fV rfl rfl _ (ex_nil (.tmp 66) rfl g 0 r66) hS uS
      ·intro f w1 hS hf aA hA
       have r67 := qA 67 8 hA sbPstt13 zsz (hf 8 (by decide))
       exact fV rfl rfl _ (fldP0 (.tmp 67) rfl g r67) hS uS
      ·intro f w1 hS hf aA hA
       have r68 := qA 68 9 hA sbPstt13 zsz (hf 9 (by decide))
       exact fV rfl rfl _ (fldT1 28 (Or.inl rfl) (.tmp 68) rfl g r68) hS uS
      ·intro f w1 hS hf aA hA
       have r69 := qA 69 10 hA sbPstt13 zsz (hf 10 (by decide))
       exact fV rfl rfl _ (ex_load1 26 (.tmp 69) rfl ⟨g, 1, none⟩ r69 (fun _ => by kernel_rfl) ((HP.out.box.keepB hS).cellv rfl)) hS uS
      ·intro f w1 hS hf aA hA
       have r9 := qO 9 hA z9
       exact fV rfl rfl _ (ex_move (.tmp 9) rfl r9) hS uS
      ·intro f w1 hS hf aA hA
       have r70 := qA 70 11 hA sbPstt13 zsz (hf 11 (by decide))
       have r71 := qA 71 12 hA sbPstt13 zsz (hf 12 (by decide))
       exact fV rfl rfl _ (ex_indexS 26 47 (.tmp 70) (.tmp 71) rfl (⟨gg, 0, none⟩ : Addr) (layTo takeC PL x L i).length cap2 k 65 (by kernel_rfl) (fun _ => by kernel_rfl) (Eq.trans r70 HGV2.out) r71 hkl) hS uS
      ·intro f w1 hS hf aA hA
       have r72 := qA 72 13 hA sbPstt13 zsz (hf 13 (by decide))
       exact fV rfl rfl _ (ex_loadR 47 (.tmp 72) rfl ((⟨gg, 0, none⟩ : Addr).add (k * 65)) r72 (fun _ => by kernel_rfl) (encC (((layTo takeC PL x L i)[k]))) (by rw [encC_len]; kernel_rfl) (HEL2.out w1 hS.block)) hS uS
      ·intro f w1 hS hf aA hA
       have r4 := qO 4 hA z4
       exact fV rfl rfl _ (ex_loadR 42 (.tmp 4) rfl ⟨b4_13, 0, none⟩ r4 (fun _ => by kernel_rfl) (encU x) (by rw [encU_len]; kernel_rfl) ((HX_b4_13.out.keepB hS).part (encU x) 0 (encU_all' x))) hS uS
      ·intro f w1 hS hf aA hA
       have r65 := qA 65 6 hA sbPstt13 zsz (hf 6 (by decide))
       have r73 := qA 73 14 hA sbPstt13 zsz (hf 14 (by decide))
       have r74 := qA 74 15 hA sbPstt13 zsz (hf 15 (by decide))
       exact flw_callV rfl rfl 36 (.tmp 65) r65 #[(.tmp 73), (.tmp 74)] _ rfl #[aggC (((layTo takeC PL x L i)[k])), .agg (encU x).toArray] (mp2 r73 r74) (fun w => by kernel_rfl) (fun v _ => v = aggC (takeC (((layTo takeC PL x L i)[k])) x)) (take_any (((layTo takeC PL x L i)[k])) x w1 (HL.out.keep (HB.out.trans (hS.mono HB.out.size)) HSZ.out)) (fun v w' hr hb => ⟨hS.trans (hb.mono hS.size), Flz.of hb, uS.trans hr⟩)
      ·intro f w1 hS hf aA hA
       have r63 := qA 63 4 hA sbPstt13 zsz (hf 4 (by decide))
       have r64 := qA 64 5 hA sbPstt13 zsz (hf 5 (by decide))
       exact fV rfl rfl _ (ex_indexS 26 47 (.tmp 63) (.tmp 64) rfl (⟨gg, 0, none⟩ : Addr) (layTo takeC PL x L i).length cap2 k 65 (by kernel_rfl) (fun _ => by kernel_rfl) (Eq.trans r63 HGV2.out) r64 hkl) hS uS
     intro f u14 hS hf hap
     have h0 := eqL (hf 0 (by decide)) rfl
     have h1 := eqL (hf 1 (by decide)) rfl
     have h2 := eqL (hf 2 (by decide)) rfl
     have h3 := eqL (hf 3 (by decide)) rfl
     have h4 := eqL (hf 4 (by decide)) rfl
     have h5 := eqL (hf 5 (by decide)) rfl
     have h6 := eqL (hf 6 (by decide)) rfl
     have h7 := eqL (hf 7 (by decide)) rfl
     have h8 := eqL (hf 8 (by decide)) rfl
     have h9 := eqL (hf 9 (by decide)) rfl
     have h10 := eqL (hf 10 (by decide)) rfl
     have h11 := eqL (hf 11 (by decide)) rfl
     have h12 := eqL (hf 12 (by decide)) rfl
     have h13 := eqL (hf 13 (by decide)) rfl
     have h14 := eqL (hf 14 (by decide)) rfl
     have h15 := eqL (hf 15 (by decide)) rfl
     have h16 := eqL (hf 16 (by decide)) rfl
     have h17 := eqL (hf 17 (by decide)) rfl
     clear hf hap
     clear zsz z0 z9 z7 z4
     subst ha0
     simp only [slotsPstt13, putAll, h0, h1, h2, h3, h4, h5, h6, h7, h8, h9, h10, h11, h12, h13, h14, h15, h16, h17, Act.put, List.setIfInBounds_toArray, List.set_cons_zero, List.set_cons_succ]
     clear h0 h1 h2 h3 h4 h5 h6 h7 h8 h9 h10 h11 h12 h13 h14 h15 h16 h17
     have HP14 := Lib.hid (HP.out.keep hS)
     have HX14 := Lib.hid (HX_b4_13.out.keepB hS)
     have HN14 := Lib.hid (HN.out.keep hS)
     have HB14 := Lib.hid (HB.out.trans (hS.mono HB.out.size))
     clear HP HX_b4_13 HN HB hS
     have HOB : Hid (vL.ownBlock = some gg) := Lib.hid (by rw [HGV2.out]; rfl)
     have HGG := Lib.hid (HWL.out gg HOB.out)
     refine tl_step rfl rfl (fun K hK => wp_store_ce 47 (by kernel_rfl) (.tmp 76) (.tmp 75) rfl b 47 vL _ HP14.out.cells gg cap2 k HGV2.out hkl rfl _ rfl (fun u15 hR hbl hgr => hK _ _ ?_))
     have HG15 : Hid (u14.grownBy u15 (some gg)) := Lib.hid hgr
     have HP15 := Lib.hid (HP14.out.cell HGV2.out hR hgr)
     have HB15 := Lib.hid (HB14.out.grown hgr HB14.out.size (fun k' hk' => by obtain rfl := Option.some.inj hk'; exact Nat.le_trans HBB.out (HP14.out.cells.base _ HOB.out)))
     have HX15 : Hid (Has u15 b4_13 42 (encU x)) := Lib.hid ((hgr.block _ HX14.out.lt (fun e => (HX14.out.blkT.ne (HP14.out.cells.blkT gg HOB.out) (by decide)) (Option.some.inj e))).trans HX14.out)
     have HN15 := Lib.hid (HN14.out.off hgr (fun k' hk' => by obtain rfl := Option.some.inj hk'; exact HGG.out))
     clear hR hbl hgr HP14 HX14 HN14 HB14 HG15
     refine tl_nilN ?_
     try simp only [Act.put]
     go_upto_region 14 with fail
     refine wp_act (fun a0 ha0 => ?_)
     have zsz : a0.tmps.size = 81 := by rw [ha0]; rfl
     have z0 : a0.eval (.tmp 0) = .pointer (some ⟨g, 0, none⟩) := by rw [ha0]; rfl
     have z9 : a0.eval (.tmp 9) = .int .i64 ((k : Int)) := by rw [ha0]; rfl
     refine wrO [] slotsPstt14 waitPstt14 [Fct.val Flz 0 (.pointer (some ⟨g, 0, none⟩)), Fct.val Flz 1 (.int .i64 ((k : Int)))] (fun w' => Below u15.heap.size u15 w') _ 2 1 chkPstt14 (by kernel_rfl) (by kernel_rfl) (by kernel_rfl) (by decide) (Below.refl _ _) ?_ ?_
     ·refine lt_s (lt_s (lt_0) ?_) ?_
      ·intro f w1 hS hf aA hA
       have r0 := qO 0 hA z0
       exact fV rfl rfl _ (ex_move (.tmp 0) rfl r0) hS uS
      ·intro f w1 hS hf aA hA
       have r9 := qO 9 hA z9
       exact fV rfl rfl _ (ex_move (.tmp 9) rfl r9) hS uS
     intro f u16 hS hf hap
     have h0 := eqL (hf 0 (by decide)) rfl
     have h1 := eqL (hf 1 (by decide)) rfl
     clear hf hap
     clear zsz z0 z9
     subst ha0
     simp only [slotsPstt14, putAll, h0, h1, Act.put, List.setIfInBounds_toArray, List.set_cons_zero, List.set_cons_succ]
     clear h0 h1
     have HP16 := Lib.hid (HP15.out.keep hS)
     have HX16 := Lib.hid (HX15.out.keepB hS)
     have HN16 := Lib.hid (HN15.out.keep hS)
     have HB16 := Lib.hid (HB15.out.trans (hS.mono HB15.out.size))
     clear HP15 HX15 HN15 HB15 hS
     have hks : k < ((layTo takeC PL x L i).set k (takeC (layTo takeC PL x L i)[k] x)).length := by rw [List.length_set]; exact hkl
     have HAS : Hid ((aloneL s (layTo takeC PL x L i)).set k (alone s ((layTo takeC PL x L i).set k (takeC (layTo takeC PL x L i)[k] x)).length ((layTo takeC PL x L i).set k (takeC (layTo takeC PL x L i)[k] x))[k] k) = aloneL s ((layTo takeC PL x L i).set k (takeC (layTo takeC PL x L i)[k] x))) := Lib.hid (aloneL_set s _ k _ hkl)
     refine tl_call rfl rfl 51 #[(.tmp 77), (.tmp 78)] _ rfl #[.pointer (some ⟨g, 0, none⟩), .int .i64 (k : Int)] (by kernel_rfl) (fun w => by kernel_rfl) _ (look_b b g s ((layTo takeC PL x L i).set k (takeC (layTo takeC PL x L i)[k] x)) (aloneL s (layTo takeC PL x L i)) (P ++ [x]) (M) vL vA vn vM k hks (by rw [aloneL_len, List.length_set]) w u16 HB16.out HSD.out HL.out HP16.out) ?_
     rintro e u17 ⟨⟨z, rfl⟩, hp, hg⟩
     refine ⟨z, rfl, ?_⟩
     rw [HAS.out, ← HNX.out] at hp
     have HP := Lib.hid hp
     have HB := Lib.hid (HB16.out.grown hg HB16.out.size (fun k' hk' => Nat.le_trans HBB.out (HVB.out k' hk')))
     have HX_b4_13 : Hid (Has u17 b4_13 42 (encU x)) := Lib.hid ((hg.block _ HX16.out.lt (fun e => (HX16.out.blkT.ne (HP16.out.bools.blkT _ e.symm) (by decide)) rfl)).trans HX16.out)
     have HN := Lib.hid (HN16.out.off hg (fun k' hk' => HWA.out k' hk'))
     clear hp hg HP16 HX16 HN16 HB16
     try simp only [Act.put]
     refine tl_nil ?_
     go_wp2_with fail
     go_roundw
     case rel => exact ⟨i + 1, by omega, by go_num, HP.out, HX_b4_13.out, HN.out, HB.out⟩
     case measure => simp [intOf]; omega
    ·obtain rfl : i = PL.length := by omega
     have k3 : ¬ (PL.length : Int) < (PL.length : Int) := by omega
     have hpe := HP.out
     rw [HALL.out] at hpe
     go_wp2_with fail
     go_ret
     have HSQ : stepQ s (L, P, M) = (layT takeC s x L, P ++ [x], M) := by unfold stepQ; rw [HST.out, HTK.out]; rfl
     exact ⟨⟨by rw [HST.out]; rfl, vL, vA, vn, vM, by rw [HSQ]; exact hpe⟩, HB.out⟩
  ·have HC1 : Hid ((c.1 == 1) = false) := Lib.hid (beq_eq_false_iff_ne.2 hc1)
   have HTK : Hid (takeP s (L, P, M) c = (layT putC s x L, P, M ++ [x])) := Lib.hid (by unfold takeP; rw [if_neg hc1, HXX.out])
   have HU2 : Hid (∀ k, Value.ownBlock vP = some k → k < u2.heap.size) := HLP
   have HU3 : Hid (∀ k, Value.ownBlock vM = some k → k < u2.heap.size) := HLM
   go_upto_region 4 with fail
   refine wp_act (fun a0 ha0 => ?_)
   have zsz : a0.tmps.size = 81 := by rw [ha0]; rfl
   have z0 : a0.eval (.tmp 0) = .pointer (some ⟨g, 0, none⟩) := by rw [ha0]; rfl
   have z3 : a0.eval (.tmp 3) = .int .i64 ((i : Int)) := by rw [ha0]; rfl
   refine wrO [] slotsPstt4 waitPstt4 [Fct.val Flz 0 (.pointer (some ⟨g, 0, none⟩)), Fct.val Flz 1 (.pointer (some ⟨g, 0, none⟩)), Fct.val Flz 2 (.pointer (some ⟨g, 0, none⟩)), Fct.val Flz 3 (.pointer (some ⟨g, 1, none⟩)), Fct.val Flz 4 (vL), Fct.val Flz 5 (.int .i64 ((i : Int))), Fct.val Flz 6 (.pointer (some ((⟨gc, 0, none⟩ : Addr).add (i * 65)))), Fct.val Flz 7 (aggC c), Fct.val Flz 8 (.tuple #[.agg (encU x).toArray, .bool false, .bool true]), Fct.val Flz 9 (.tuple #[.agg (encU x).toArray, .bool false, .bool true]), Fct.val Flz 10 (.agg (encU x).toArray), Fct.val Flz 11 (.bool false), Fct.val Flz 12 (.bool true), Fct.obj 13 (fun v w => ∃ g, v = .pointer (some ⟨g, 0, none⟩) ∧ u2.heap.size ≤ g ∧ Has w g 42 (encU zS)) (fun _ _ _ ⟨g, a, b, c⟩ he => ⟨g, a, b, c.flz he (by decide)⟩)] (fun w' => Below u2.heap.size u2 w') _ 14 3 chkPstt4 (by kernel_rfl) (by kernel_rfl) (by kernel_rfl) (by decide) (Below.refl _ _) ?_ ?_
   ·refine lt_s (lt_s (lt_s (lt_s (lt_s (lt_s (lt_s (lt_s (lt_s (lt_s (lt_s (lt_s (lt_s (lt_s (lt_0) ?_) ?_) ?_) ?_) ?_) ?_) ?_) ?_) ?_) ?_) ?_) ?_) ?_) ?_
    ·intro f w1 hS hf aA hA
     have r0 := qO 0 hA z0
     exact fV rfl rfl _ (ex_move (.tmp 0) rfl r0) hS uS
    ·intro f w1 hS hf aA hA
     have r18 := qA 18 0 hA sbPstt4 zsz (hf 0 (by decide))
     exact fV rfl rfl _ (ex_nil (.tmp 18) rfl g 0 r18) hS uS
    ·intro f w1 hS hf aA hA
     have r19 := qA 19 1 hA sbPstt4 zsz (hf 1 (by decide))
     exact fV rfl rfl _ (fldP0 (.tmp 19) rfl g r19) hS uS
    ·intro f w1 hS hf aA hA
     have r20 := qA 20 2 hA sbPstt4 zsz (hf 2 (by decide))
     exact fV rfl rfl _ (fldT1 28 (Or.inl rfl) (.tmp 20) rfl g r20) hS uS
    ·intro f w1 hS hf aA hA
     have r21 := qA 21 3 hA sbPstt4 zsz (hf 3 (by decide))
     exact fV rfl rfl _ (ex_load1 26 (.tmp 21) rfl ⟨g, 1, none⟩ r21 (fun _ => by kernel_rfl) ((HP.out.box.keepB hS).cellv rfl)) hS uS
    ·intro f w1 hS hf aA hA
     have r3 := qO 3 hA z3
     exact fV rfl rfl _ (ex_move (.tmp 3) rfl r3) hS uS
    ·intro f w1 hS hf aA hA
     have r22 := qA 22 4 hA sbPstt4 zsz (hf 4 (by decide))
     have r23 := qA 23 5 hA sbPstt4 zsz (hf 5 (by decide))
     exact fV rfl rfl _ (ex_indexS 26 47 (.tmp 22) (.tmp 23) rfl (⟨gc, 0, none⟩ : Addr) L.length cap i 65 (by kernel_rfl) (fun _ => by kernel_rfl) (Eq.trans r22 HGV.out) r23 hi) hS uS
    ·intro f w1 hS hf aA hA
     have r24 := qA 24 6 hA sbPstt4 zsz (hf 6 (by decide))
     exact fV rfl rfl _ (ex_loadR 47 (.tmp 24) rfl ((⟨gc, 0, none⟩ : Addr).add (i * 65)) r24 (fun _ => by kernel_rfl) (encC c) (by rw [encC_len]; kernel_rfl) (HEL.out w1 hS.block)) hS uS
    ·intro f w1 hS hf aA hA
     have r25 := qA 25 7 hA sbPstt4 zsz (hf 7 (by decide))
     exact fC rfl rfl 53 #[(.tmp 25)] _ rfl #[aggC c] (mp1 r25) (fun w => by kernel_rfl) _ (as_any (pure_any c w1 (HL.out.keep (HB.out.trans (hS.mono HB.out.size)) HSZ.out)) ((pureV_on HPU.out).trans (by rw [HC1.out, HXX.out]))) hS (fun _ _ h => uS.trans h)
    ·intro f w1 hS hf aA hA
     have r26 := qA 26 8 hA sbPstt4 zsz (hf 8 (by decide))
     exact fV rfl rfl _ (ex_move (.tmp 26) rfl r26) hS uS
    ·intro f w1 hS hf aA hA
     have r17 := qA 17 9 hA sbPstt4 zsz (hf 9 (by decide))
     exact fV rfl rfl _ (ex_extract (.tmp 17) 0 rfl r17 rfl) hS uS
    ·intro f w1 hS hf aA hA
     have r17 := qA 17 9 hA sbPstt4 zsz (hf 9 (by decide))
     exact fV rfl rfl _ (ex_extract (.tmp 17) 1 rfl r17 rfl) hS uS
    ·intro f w1 hS hf aA hA
     have r17 := qA 17 9 hA sbPstt4 zsz (hf 9 (by decide))
     exact fV rfl rfl _ (ex_extract (.tmp 17) 2 rfl r17 rfl) hS uS
    ·intro f w1 hS hf aA hA
     exact flw_wp rfl rfl (fun K hK => wp_alloc_row 42 rfl (.agg (encU zS).toArray) (fun w => by kernel_rfl) (hK _ _ (hS.alloc hS.size _) (Flz.al _ _) ⟨_, uS, hS.size, Has.made' _ _ _ _ rfl⟩))
   intro f u4 hS hf hap
   have h0 := eqL (hf 0 (by decide)) rfl
   have h1 := eqL (hf 1 (by decide)) rfl
   have h2 := eqL (hf 2 (by decide)) rfl
   have h3 := eqL (hf 3 (by decide)) rfl
   have h4 := eqL (hf 4 (by decide)) rfl
   have h5 := eqL (hf 5 (by decide)) rfl
   have h6 := eqL (hf 6 (by decide)) rfl
   have h7 := eqL (hf 7 (by decide)) rfl
   have h8 := eqL (hf 8 (by decide)) rfl
   have h9 := eqL (hf 9 (by decide)) rfl
   have h10 := eqL (hf 10 (by decide)) rfl
   have h11 := eqL (hf 11 (by decide)) rfl
   have h12 := eqL (hf 12 (by decide)) rfl
   obtain ⟨b4_13, h13, hgb13, hhb13⟩ := hf 13 (by decide)
   clear hf hap
   clear zsz z0 z3
   subst ha0
   simp only [slotsPstt4, putAll, h0, h1, h2, h3, h4, h5, h6, h7, h8, h9, h10, h11, h12, h13, Act.put, List.setIfInBounds_toArray, List.set_cons_zero, List.set_cons_succ]
   clear h0 h1 h2 h3 h4 h5 h6 h7 h8 h9 h10 h11 h12 h13
   refine tl_store rfl (by kernel_rfl) 42 (.tmp 4) (.tmp 27) rfl b4_13 (encU x) _ rfl rfl _ hhb13 (by rw [encU_len]; kernel_rfl) (by simp only [encU_len]) (encU_all _) ?_
   intro u5 hp13 hbl hot
   replace hS := hS.trans (hbl _ hgb13)
   clear hbl hot hhb13
   try simp only [Act.put]
   refine tl_pure rfl (by kernel_rfl) (.bool false) (ex_assign (.tmp 28) rfl rfl) ?_
   try simp only [Act.put, List.setIfInBounds_toArray, List.set_cons_zero, List.set_cons_succ]
   refine tl_pure rfl (by kernel_rfl) (.bool true) (ex_assign (.tmp 29) rfl rfl) ?_
   try simp only [Act.put, List.setIfInBounds_toArray, List.set_cons_zero, List.set_cons_succ]
   refine tl_nil ?_
   replace HP := Lib.hid (HP.out.keep hS)
   have HBW := Lib.hid HB.out.size
   replace HB := Lib.hid (HB.out.trans (hS.mono HB.out.size))
   clear hS
   have HGU : Hid (u2.heap.size ≤ b4_13) := Lib.hid hgb13
   have HGb4_13 : Hid (w.heap.size ≤ b4_13) := Lib.hid (Nat.le_trans HBW.out hgb13)
   have HX_b4_13 : Hid (Has u5 b4_13 42 (encU x)) := Lib.hid hp13
   clear hp13 hgb13
   clear HBW
   go_upto_region 5 with fail
   refine wp_act (fun a0 ha0 => ?_)
   have zsz : a0.tmps.size = 81 := by rw [ha0]; rfl
   refine wrO [] slotsPstt5 waitPstt5 [Fct.val Flz 0 (.func (.func 36) #[] #[])] (fun w' => Below u5.heap.size u5 w') _ 1 0 chkPstt5 (by kernel_rfl) (by kernel_rfl) (by kernel_rfl) (by decide) (Below.refl _ _) ?_ ?_
   ·refine lt_s (lt_0) ?_
    ·intro f w1 hS hf aA hA
     exact fV rfl rfl (.func (.func 36) #[] #[]) (ex_assign _ rfl rfl) hS uS
   intro f u6 hS hf hap
   have h0 := eqL (hf 0 (by decide)) rfl
   clear hf hap
   clear zsz
   subst ha0
   simp only [slotsPstt5, putAll, h0, Act.put, List.setIfInBounds_toArray, List.set_cons_zero, List.set_cons_succ]
   clear h0
   refine tl_nil ?_
   replace HP := Lib.hid (HP.out.keep hS)
   replace HX_b4_13 := Lib.hid (HX_b4_13.out.keepB hS)
   replace HB := Lib.hid (HB.out.trans (hS.mono HB.out.size))
   clear hS
   go_upto_region 6 with fail
   refine wp_act (fun a0 ha0 => ?_)
   have zsz : a0.tmps.size = 81 := by rw [ha0]; rfl
   have z5 : a0.eval (.tmp 5) = .bool false := by rw [ha0]; rfl
   refine wrO [] slotsPstt6 waitPstt6 [Fct.val Flz 0 (.bool false)] (fun w' => Below u6.heap.size u6 w') _ 1 0 chkPstt6 (by kernel_rfl) (by kernel_rfl) (by kernel_rfl) (by decide) (Below.refl _ _) ?_ ?_
   ·refine lt_s (lt_0) ?_
    ·intro f w1 hS hf aA hA
     have r5 := qO 5 hA z5
     exact fV rfl rfl _ (ex_move (.tmp 5) rfl r5) hS uS
   intro f u7 hS hf hap
   have h0 := eqL (hf 0 (by decide)) rfl
   clear hf hap
   clear zsz z5
   subst ha0
   simp only [slotsPstt6, putAll, h0, Act.put, List.setIfInBounds_toArray, List.set_cons_zero, List.set_cons_succ]
   clear h0
   refine tl_nil ?_
   replace HP := Lib.hid (HP.out.keep hS)
   replace HX_b4_13 := Lib.hid (HX_b4_13.out.keepB hS)
   replace HB := Lib.hid (HB.out.trans (hS.mono HB.out.size))
   clear hS
   have HKD : Hid (∀ k, Value.ownBlock vM = some k → k < u7.drew.heap.size) := Lib.hid (fun k hk => by have := HU3.out k hk; have := HGU.out; have := HX_b4_13.out.lt; show k < u7.heap.size; omega)
   have HQ7 : Hid (M.length + 1 ≤ 1000000) := Lib.hid (by have := HQ.out; omega)
   have HB7 : Hid (Below w.heap.size w u7) := HB
   have HP7 : Hid (PeS b u7.drew g s L (aloneL s L) P M vL vA vP vM) := Lib.hid (HP.out.keep (Below.refl _ _).drew)
   have HX7 : Hid (Has u7.drew b4_13 42 (encU x)) := Lib.hid (HX_b4_13.out.keepB (Below.refl _ _).drew)
   have HSG : Hid (∀ w1, SPx b u7.drew vM M w1 → Has w1 g 66 [.int .u64 (s : Int), vL, vA, vP, vM]) := Lib.hid (fun w1 h => h.has HP7.out.box (fun k hk => (HP7.out.minus.blkT k hk).ne HP7.out.box.blkT (by decide)))
   have HSX : Hid (∀ w1, SPx b u7.drew vM M w1 → Has w1 b4_13 42 (encU x)) := Lib.hid (fun w1 h => h.has HX7.out (fun k hk e => by have := HU3.out k hk; have := HGU.out; omega))
   have HBU : Hid (b ≤ u7.drew.heap.size) := Lib.hid (Nat.le_trans HP7.out.lo (Nat.le_of_lt HP7.out.box.lt))
   clear HP HX_b4_13 HB
   go_upto_region 8 with fail
   refine wp_act (fun a0 ha0 => ?_)
   have zsz : a0.tmps.size = 81 := by rw [ha0]; rfl
   have z0 : a0.eval (.tmp 0) = .pointer (some ⟨g, 0, none⟩) := by rw [ha0]; rfl
   have z4 : a0.eval (.tmp 4) = .pointer (some ⟨b4_13, 0, none⟩) := by rw [ha0]; rfl
   refine wp_region_flw (E := (EPx b vM M x)) [] slotsPstf8 waitPstf8 [Fct.val (EPx b vM M x) 0 (.pointer (some ⟨g, 0, none⟩)), Fct.val (EPx b vM M x) 1 (.pointer (some ⟨g, 0, none⟩)), Fct.val (EPx b vM M x) 2 (.pointer (some ⟨g, 0, none⟩)), Fct.val (EPx b vM M x) 3 (.pointer (some ⟨g, 4, none⟩)), Fct.val (EPx b vM M x) 4 (vM), Fct.val (EPx b vM M x) 5 (.agg (encU x).toArray), Fct.obj 6 (fun v w => ∃ zz, v = .slice (some ⟨zz, 0, none⟩) 1 1 ∧ u7.drew.heap.size ≤ zz ∧ Has w zz 42 (encU x)) (fun _ _ _ ⟨zz, a, b⟩ he => ⟨zz, a, ⟨b.1, he.1.has b.2 (fun k hk e => by subst e; exact absurd (HKD.out _ hk) (Nat.not_lt.2 b.1))⟩⟩), Fct.obj 7 (fun v w => RowS b w v (M ++ [x]) ∧ ∀ k, Value.ownBlock v = some k → Value.ownBlock vM = some k ∨ u7.drew.heap.size ≤ k) (fun _ _ _ h he => ⟨(he.2 _).2 h.1, h.2⟩)] (fun w1 => SPx b u7.drew vM M w1) _ 8 3 chkPstf8 (by kernel_rfl) (by kernel_rfl) (by kernel_rfl) (by kernel_rfl) (by decide) ⟨Grw.refl _ _, HP7.out.minus⟩ ?_ ?_
   ·refine lt_s (lt_s (lt_s (lt_s (lt_s (lt_s (lt_s (lt_s (lt_0) ?_) ?_) ?_) ?_) ?_) ?_) ?_) ?_
    ·intro f w1 hS hf
     generalize hA : putAll _ _ f = aA
     have r0 := qO 0 hA z0
     exact flw_val rfl rfl (.pointer (some ⟨g, 0, none⟩)) (ex_move (.tmp 0) rfl r0) hS (EPx.refl _) uS
    ·intro f w1 hS hf
     generalize hA : putAll _ _ f = aA
     have r0 := qO 0 hA z0
     exact flw_val rfl rfl (.pointer (some ⟨g, 0, none⟩)) (ex_move (.tmp 0) rfl r0) hS (EPx.refl _) uS
    ·intro f w1 hS hf
     generalize hA : putAll _ _ f = aA
     have r42 := qA 42 1 hA sbPstf8 zsz (hf 1 (by decide))
     exact flw_val rfl rfl (.pointer (some ⟨g, 0, none⟩)) (ex_nil (.tmp 42) rfl g 0 r42) hS (EPx.refl _) uS
    ·intro f w1 hS hf
     generalize hA : putAll _ _ f = aA
     have r43 := qA 43 2 hA sbPstf8 zsz (hf 2 (by decide))
     exact flw_val rfl rfl (.pointer (some ⟨g, 4, none⟩)) (fldP3 (.tmp 43) rfl g r43) hS (EPx.refl _) uS
    ·intro f w1 hS hf
     generalize hA : putAll _ _ f = aA
     have r44 := qA 44 3 hA sbPstf8 zsz (hf 3 (by decide))
     exact flw_val rfl rfl (vM) (ex_load1 23 (.tmp 44) rfl ⟨g, 4, none⟩ r44 (fun _ => by kernel_rfl) ((HSG.out _ hS).cellv rfl)) hS (EPx.refl _) uS
    ·intro f w1 hS hf
     generalize hA : putAll _ _ f = aA
     have r4 := qO 4 hA z4
     exact flw_val rfl rfl (.agg (encU x).toArray) (ex_loadR 42 (.tmp 4) rfl ⟨b4_13, 0, none⟩ r4 (fun _ => by kernel_rfl) (encU x) (by rw [encU_len]; kernel_rfl) ((HSX.out _ hS).part (encU x) 0 (encU_all' x))) hS (EPx.refl _) uS
    ·intro f w1 hS hf
     generalize hA : putAll _ _ f = aA
     have r46 := qA 46 5 hA sbPstf8 zsz (hf 5 (by decide))
     exact flw_wp rfl rfl (fun K hK => wp_one_su 23 42 elSum (.tmp 46) rfl x r46 (hK _ _ (hS.alloc _) (EPx.al _ _) ⟨_, uS, hS.size, Has.made' _ _ _ _ rfl⟩))
    ·intro f w1 hS hf
     generalize hA : putAll _ _ f = aA
     have r45 := qA 45 4 hA sbPstf8 zsz (hf 4 (by decide))
     obtain ⟨x47, hx47, hr47⟩ := hf 6 (by decide)
     have e47 := pA 47 6 hA sbPstf8 (by kernel_rfl) zsz rfl hx47
     exact flw_wp rfl rfl (fun K hK => wp_app_su (.tmp 45) (.tmp 47) rfl b vM _ r45 hS.2 x47 x e47 hr47.2 HQ7.out (Nat.le_trans HBU.out hS.size) (fun vn w2 h1 h2 h3 => hK _ _ (hS.app h2) h2 ⟨by rw [updF_self]; exact h1, fun k hk => by rw [updF_self] at hk; exact (h3 k hk).imp_right (Nat.le_trans hS.size)⟩))
   intro f u8 hS hf hap
   have h0 := eqL (hf 0 (by decide)) rfl
   have h1 := eqL (hf 1 (by decide)) rfl
   have h2 := eqL (hf 2 (by decide)) rfl
   have h3 := eqL (hf 3 (by decide)) rfl
   have h4 := eqL (hf 4 (by decide)) rfl
   have h5 := eqL (hf 5 (by decide)) rfl
   obtain ⟨v8_6, h6, hu6⟩ := hf 6 (by decide)
   have HU8_6 := Lib.hid hu6
   clear hu6
   obtain ⟨vn, h7, hrn, hkn⟩ : ∃ v, f 7 = v ∧ RowS b u8 v (M ++ [x]) ∧ ∀ k, Value.ownBlock v = some k → Value.ownBlock vM = some k ∨ u7.drew.heap.size ≤ k := ⟨_, rfl, (hf 7 (by decide)).1, (hf 7 (by decide)).2⟩
   clear hf hap
   clear zsz z0 z4
   subst ha0
   simp only [slotsPstf8, putAll, h0, h1, h2, h3, h4, h5, h6, h7, Act.put, List.setIfInBounds_toArray, List.set_cons_zero, List.set_cons_succ]
   clear h0 h1 h2 h3 h4 h5 h6 h7
   have HA9 := Lib.hid (HP7.out.appM hrn hS.1 hkn)
   have HX9 := Lib.hid (HSX.out _ hS)
   have HB9 := Lib.hid ((HB7.out.trans ((Below.refl u7.heap.size u7).drew.mono HB7.out.size)).grown hS.1 HB7.out.size (fun k hk => Nat.le_trans HBB.out (HP7.out.minus.base k hk)))
   clear hrn hkn hS HP7 HX7 HSG HSX HB7 HU8_6
   try simp only [Act.put, List.setIfInBounds_toArray, List.set_cons_zero, List.set_cons_succ]
   refine tl_pure rfl (by kernel_rfl) (.pointer (some ⟨g, 0, none⟩)) (ex_nil (.tmp 41) rfl g 0 rfl) ?_
   try simp only [Act.put, List.setIfInBounds_toArray, List.set_cons_zero, List.set_cons_succ]
   refine tl_pure rfl (by kernel_rfl) (.pointer (some ⟨g, 4, none⟩)) (fldP3 (.tmp 49) rfl g rfl) ?_
   try simp only [Act.put, List.setIfInBounds_toArray, List.set_cons_zero, List.set_cons_succ]
   refine tl_step rfl rfl (fun K hK => wp_store_at 23 (by kernel_rfl) (.tmp 50) (.tmp 48) rfl g 4 66 _ HA9.out.box (by simp) rfl vn (Us.oneC (OwnU.us HA9.out.minus)) rfl (fun u10 hp hbl hot => hK _ _ ?_))
   have HP := Lib.hid (HA9.out.store hp hot)
   have HX_b4_13 : Hid (Has u10 b4_13 42 (encU x)) := Lib.hid ((hot _ (HX9.out.blkT.ne HA9.out.box.blkT (by decide))).trans HX9.out)
   have HB := Lib.hid (HB9.out.trans (hbl _ (Nat.le_trans HBB.out HA9.out.lo)))
   clear hp hbl hot HA9 HX9 HB9
   refine tl_nilN ?_
   try simp only [Act.put]
   go_upto_region 9 with fail
   refine wp_act (fun a0 ha0 => ?_)
   have zsz : a0.tmps.size = 81 := by rw [ha0]; rfl
   refine wrO [] slotsPstf9 waitPstf9 [Fct.val Flz 0 (.func (.func 33) #[] #[])] (fun w' => Below u10.heap.size u10 w') _ 1 0 chkPstf9 (by kernel_rfl) (by kernel_rfl) (by kernel_rfl) (by decide) (Below.refl _ _) ?_ ?_
   ·refine lt_s (lt_0) ?_
    ·intro f w1 hS hf aA hA
     exact fV rfl rfl (.func (.func 33) #[] #[]) (ex_assign _ rfl rfl) hS uS
   intro f u11 hS hf hap
   have h0 := eqL (hf 0 (by decide)) rfl
   clear hf hap
   clear zsz
   subst ha0
   simp only [slotsPstf9, putAll, h0, Act.put, List.setIfInBounds_toArray, List.set_cons_zero, List.set_cons_succ]
   clear h0
   refine tl_nil ?_
   replace HP := Lib.hid (HP.out.keep hS)
   replace HX_b4_13 := Lib.hid (HX_b4_13.out.keepB hS)
   replace HB := Lib.hid (HB.out.trans (hS.mono HB.out.size))
   clear hS
   have HWL := Lib.hid HP.out.cells.lt
   have HWA : Hid (∀ k, Value.ownBlock vA = some k → k < u11.heap.size) := Lib.hid (fun k hk => by obtain ⟨_, _, hq⟩ := HP.out.bools.blkT k hk; exact (Array.getElem?_eq_some_iff.1 hq).1)
   have HVB := Lib.hid HP.out.bools.base
   go_upto_region 10 with fail
   refine wp_act (fun a0 ha0 => ?_)
   have zsz : a0.tmps.size = 81 := by rw [ha0]; rfl
   have z0 : a0.eval (.tmp 0) = .pointer (some ⟨g, 0, none⟩) := by rw [ha0]; rfl
   have z4 : a0.eval (.tmp 4) = .pointer (some ⟨b4_13, 0, none⟩) := by rw [ha0]; rfl
   refine wrO [] slotsPstt10 waitPstt10 [Fct.val Flz 0 (.pointer (some ⟨g, 0, none⟩)), Fct.val Flz 1 (.agg (encU x).toArray), Fct.obj 2 (fun v w => ∃ zz, v = zz ∧ InsF u11.heap.size w zz (places s ((L).length : Int) x)) (fun _ _ _ ⟨zz, a, b⟩ he => ⟨zz, a, b.flz he⟩), Fct.val Flz 3 (.int .i64 (((places s ((L).length : Int) x).length : Int))), Fct.val Flz 4 (.int .i64 0)] (fun w' => Below u11.heap.size u11 w') _ 5 0 chkPstt10 (by kernel_rfl) (by kernel_rfl) (by kernel_rfl) (by decide) (Below.refl _ _) ?_ ?_
   ·refine lt_s (lt_s (lt_s (lt_s (lt_s (lt_0) ?_) ?_) ?_) ?_) ?_
    ·intro f w1 hS hf aA hA
     have r0 := qO 0 hA z0
     exact fV rfl rfl _ (ex_move (.tmp 0) rfl r0) hS uS
    ·intro f w1 hS hf aA hA
     have r4 := qO 4 hA z4
     exact fV rfl rfl _ (ex_loadR 42 (.tmp 4) rfl ⟨b4_13, 0, none⟩ r4 (fun _ => by kernel_rfl) (encU x) (by rw [encU_len]; kernel_rfl) ((HX_b4_13.out.keepB hS).part (encU x) 0 (encU_all' x))) hS uS
    ·intro f w1 hS hf aA hA
     have r51 := qA 51 0 hA sbPstt10 zsz (hf 0 (by decide))
     have r52 := qA 52 1 hA sbPstt10 zsz (hf 1 (by decide))
     exact fC rfl rfl 54 #[(.tmp 51), (.tmp 52)] _ rfl #[.pointer (some ⟨g, 0, none⟩), .agg (encU x).toArray] (mp2 r51 r52) (fun w => by kernel_rfl) _ (placesP_in b g s L (aloneL s L) (P) (M ++ [x]) vL vA vP vn x w1 HSD.out (HL.out.keep (HB.out.trans (hS.mono HB.out.size)) HSZ.out) (HP.out.keep hS) u11.heap.size hS.size) hS (fun _ _ ⟨zz, a, b⟩ => ⟨zz, uS.trans a, b⟩)
    ·intro f w1 hS hf aA hA
     obtain ⟨x53, hx53, hr53⟩ := hf 2 (by decide)
     have e53 := pA 53 2 hA sbPstt10 (by kernel_rfl) zsz rfl hx53
     obtain ⟨q9, c9, hv9, _⟩ := hr53.len
     exact fV rfl rfl _ (ex_len 38 3 (.tmp 53) rfl (by kernel_rfl) q9 (places s ((L).length : Int) x).length c9 (e53.trans hv9)) hS uS
    ·intro f w1 hS hf aA hA
     exact fV rfl rfl (.int .i64 0) (ex_move _ rfl rfl) hS uS
   intro f u12 hS hf hap
   have h0 := eqL (hf 0 (by decide)) rfl
   have h1 := eqL (hf 1 (by decide)) rfl
   obtain ⟨v10_2, h2, hu2⟩ := hf 2 (by decide)
   have HU10_2 := Lib.hid hu2
   clear hu2
   have h3 := eqL (hf 3 (by decide)) rfl
   have h4 := eqL (hf 4 (by decide)) rfl
   clear hf hap
   clear zsz z0 z4
   subst ha0
   simp only [slotsPstt10, putAll, h0, h1, h2, h3, h4, Act.put, List.setIfInBounds_toArray, List.set_cons_zero, List.set_cons_succ]
   clear h0 h1 h2 h3 h4
   refine tl_nil ?_
   replace HP := Lib.hid (HP.out.keep hS)
   replace HX_b4_13 := Lib.hid (HX_b4_13.out.keepB hS)
   replace HB := Lib.hid (HB.out.trans (hS.mono HB.out.size))
   clear hS
   have HPL : Hid (∀ i (h : i < (places s ((L).length : Int) x).length), ∃ k : Nat, (places s ((L).length : Int) x)[i] = (k : Int) ∧ k < L.length) := Lib.hid (fun i h => place_lt h)
   have HALL : Hid (layTo putC (places s ((L).length : Int) x) x L (places s ((L).length : Int) x).length = layT putC s x L) := Lib.hid (layTo_all putC s x L)
   have hPLn : (places s ((L).length : Int) x).length ≤ 3 := places_small _ _ _
   generalize places s ((L).length : Int) x = PL at *
   have HP0 : Hid (PeS b u12 g s (layTo putC PL x L 0) (aloneL s (layTo putC PL x L 0)) (P) (M ++ [x]) vL vA vP vn) := HP
   go_wp2_with fail
   go_loopw [55] (fun vi wr => ∃ i : Nat, i ≤ PL.length ∧ vi = .int .i64 i ∧ PeS b wr g s (layTo putC PL x L i) (aloneL s (layTo putC PL x L i)) (P) (M ++ [x]) vL vA vP vn ∧ Has wr b4_13 42 (encU x) ∧ InsF u11.heap.size wr v10_2 PL ∧ Below w.heap.size w wr) (fun vi _ => PL.length - (intOf vi).toNat)
   case atStart => exact ⟨0, by omega, rfl, HP0.out, HX_b4_13.out, HU10_2.out, HB.out⟩
   case round =>
    clear HP HP0 HX_b4_13 HU10_2 HB
    rename_i wr
    obtain ⟨i, hi, rfl, hp, hx1, hn, hB⟩ := hrel
    have HP := Lib.hid hp
    have HX_b4_13 := Lib.hid hx1
    have HN := Lib.hid hn
    have HB := Lib.hid hB
    clear hp hx1 hn hB
    by_cases hlt : i < PL.length
    ·obtain ⟨k, hpk, hkL⟩ := HPL.out i hlt
     have hkl : k < (layTo putC PL x L i).length := by rw [layTo_len]; exact hkL
     have HNX : Hid (layTo putC PL x L (i + 1) = (layTo putC PL x L i).set k (putC (layTo putC PL x L i)[k] x)) := Lib.hid (layTo_succ putC PL x L i hlt k hpk hkl)
     obtain ⟨pa, pc, hpv, hcell⟩ := HN.out.el hlt
     rw [hpk] at hcell
     have HCL := Lib.hid hcell
     have HPV := Lib.hid hpv
     have k3 : (i : Int) < (PL.length : Int) := by omega
     clear hcell hpv hpk
     go_upto_region 12 with fail
     refine wp_act (fun a0 ha0 => ?_)
     have zsz : a0.tmps.size = 81 := by rw [ha0]; rfl
     have z53 : a0.eval (.tmp 53) = v10_2 := by rw [ha0]; rfl
     have z55 : a0.eval (.tmp 55) = .int .i64 ((i : Int)) := by rw [ha0]; rfl
     refine wrO [] slotsPstt12 waitPstt12 [Fct.val Flz 0 (.pointer (some (pa.add (i * 1)))), Fct.val Flz 1 (.int .i64 ((k : Int))), Fct.val Flz 2 (.int .i64 ((k : Int)))] (fun w' => Below wr.heap.size wr w') _ 3 0 chkPstt12 (by kernel_rfl) (by kernel_rfl) (by kernel_rfl) (by decide) (Below.refl _ _) ?_ ?_
     ·refine lt_s (lt_s (lt_s (lt_0) ?_) ?_) ?_
      ·intro f w1 hS hf aA hA
       have r53 := qO 53 hA z53
       have r55 := qO 55 hA z55
       exact fV rfl rfl _ (ex_indexS 38 3 (.tmp 53) (.tmp 55) rfl pa PL.length pc i 1 (by kernel_rfl) (fun _ => by kernel_rfl) (Eq.trans r53 HPV.out) r55 hlt) hS uS
      ·intro f w1 hS hf aA hA
       have r57 := qA 57 0 hA sbPstt12 zsz (hf 0 (by decide))
       exact fV rfl rfl _ (ex_load1 3 (.tmp 57) rfl (pa.add (i * 1)) r57 (fun _ => by kernel_rfl) (HCL.out w1 hS.block)) hS uS
      ·intro f w1 hS hf aA hA
       have r58 := qA 58 1 hA sbPstt12 zsz (hf 1 (by decide))
       exact fV rfl rfl _ (ex_assign (.tmp 58) rfl r58) hS uS
     intro f u13 hS hf hap
     have h0 := eqL (hf 0 (by decide)) rfl
     have h1 := eqL (hf 1 (by decide)) rfl
     have h2 := eqL (hf 2 (by decide)) rfl
     clear hf hap
     clear zsz z53 z55
     subst ha0
     simp only [slotsPstt12, putAll, h0, h1, h2, Act.put, List.setIfInBounds_toArray, List.set_cons_zero, List.set_cons_succ]
     clear h0 h1 h2
     refine tl_nil ?_
     replace HP := Lib.hid (HP.out.keep hS)
     replace HX_b4_13 := Lib.hid (HX_b4_13.out.keepB hS)
     replace HN := Lib.hid (HN.out.keep hS)
     replace HB := Lib.hid (HB.out.trans (hS.mono HB.out.size))
     clear hS
     obtain ⟨gg, cap2, hgv, hgb, hgl, hel⟩ := HP.out.cells.el hkl
     have HGV2 := Lib.hid hgv
     have HEL2 := Lib.hid hel
     clear hgv hgb hgl hel
     go_upto_region 13 with fail
     have HST : Hid (Below u13.heap.size u13 u13.drew) := Lib.hid (Below.refl _ _).drew
     replace HP := Lib.hid (HP.out.keep HST.out)
     replace HX_b4_13 := Lib.hid (HX_b4_13.out.keepB HST.out)
     replace HN := Lib.hid (HN.out.keep HST.out)
     replace HB := Lib.hid (HB.out.trans (HST.out.mono HB.out.size))
     clear HST
     refine wp_act (fun a0 ha0 => ?_)
     have zsz : a0.tmps.size = 81 := by rw [ha0]; rfl
     have z0 : a0.eval (.tmp 0) = .pointer (some ⟨g, 0, none⟩) := by rw [ha0]; rfl
     have z9 : a0.eval (.tmp 9) = .int .i64 ((k : Int)) := by rw [ha0]; rfl
     have z7 : a0.eval (.tmp 7) = .func (.func 33) #[] #[] := by rw [ha0]; rfl
     have z4 : a0.eval (.tmp 4) = .pointer (some ⟨b4_13, 0, none⟩) := by rw [ha0]; rfl
     refine wrD [] slotsPstt13 waitPstt13 [Fct.val Flz 0 (.pointer (some ⟨g, 0, none⟩)), Fct.val Flz 1 (.pointer (some ⟨g, 0, none⟩)), Fct.val Flz 2 (.pointer (some ⟨g, 0, none⟩)), Fct.val Flz 3 (.pointer (some ⟨g, 1, none⟩)), Fct.val Flz 4 (vL), Fct.val Flz 5 (.int .i64 ((k : Int))), Fct.val Flz 6 (.func (.func 33) #[] #[]), Fct.val Flz 7 (.pointer (some ⟨g, 0, none⟩)), Fct.val Flz 8 (.pointer (some ⟨g, 0, none⟩)), Fct.val Flz 9 (.pointer (some ⟨g, 0, none⟩)), Fct.val Flz 10 (.pointer (some ⟨g, 1, none⟩)), Fct.val Flz 11 (vL), Fct.val Flz 12 (.int .i64 ((k : Int))), Fct.val Flz 13 (.pointer (some ((⟨gg, 0, none⟩ : Addr).add (k * 65)))), Fct.val Flz 14 (aggC (((layTo putC PL x L i)[k]))), Fct.val Flz 15 (.agg (encU x).toArray), Fct.val Flz 16 (aggC (putC (((layTo putC PL x L i)[k])) x)), Fct.val Flz 17 (.pointer (some ((⟨gg, 0, none⟩ : Addr).add (k * 65))))] (fun w' => Below u13.drew.heap.size u13.drew w') _ 18 1 chkPstt13 (by kernel_rfl) (by kernel_rfl) (by kernel_rfl) (by kernel_rfl) (by decide) (Below.refl _ _) ?_ ?_
     ·refine lt_s (lt_s (lt_s (lt_s (lt_s (lt_s (lt_s (lt_s (lt_s (lt_s (lt_s (lt_s (lt_s (lt_s (lt_s (lt_s (lt_s (lt_s (lt_0) ?_) ?_) ?_) ?_) ?_) ?_) ?_) ?_) ?_) ?_) ?_) ?_) ?_) ?_) ?_) ?_) ?_) ?_
      ·intro f w1 hS hf aA hA
       have r0 := qO 0 hA z0
       exact fV rfl rfl _ (ex_move (.tmp 0) rfl r0) hS uS
      ·intro f w1 hS hf aA hA
       have r59 := qA 59 0 hA sbPstt13 zsz (hf 0 (by decide))
       exact fV rfl rfl _ (ex_nil (.tmp 59) rfl g 0 r59) hS uS
      ·intro f w1 hS hf aA hA
       have r60 := qA 60 1 hA sbPstt13 zsz (hf 1 (by decide))
       exact fV rfl rfl _ (fldP0 (.tmp 60) rfl g r60) hS uS
      ·intro f w1 hS hf aA hA
       have r61 := qA 61 2 hA sbPstt13 zsz (hf 2 (by decide))
       exact fV rfl rfl _ (fldT1 28 (Or.inl rfl) (.tmp 61) rfl g r61) hS uS
      ·intro f w1 hS hf aA hA
       have r62 := qA 62 3 hA sbPstt13 zsz (hf 3 (by decide))
       exact fV rfl rfl _ (ex_load1 26 (.tmp 62) rfl ⟨g, 1, none⟩ r62 (fun _ => by kernel_rfl) ((HP.out.box.keepB hS).cellv rfl)) hS uS
      ·intro f w1 hS hf aA hA
       have r9 := qO 9 hA z9
       exact fV rfl rfl _ (ex_move (.tmp 9) rfl r9) hS uS
      ·intro f w1 hS hf aA hA
       have r7 := qO 7 hA z7
       exact fV rfl rfl _ (ex_move (.tmp 7) rfl r7) hS uS
      ·intro f w1 hS hf aA hA
       have r0 := qO 0 hA z0
       exact fV rfl rfl _ (ex_move (.tmp 0) rfl r0) hS uS
      ·intro f w1 hS hf aA hA
       have r66 := qA 66 7 hA sbPstt13 zsz (hf 7 (by decide))
       exact fV rfl rfl _ (ex_nil (.tmp 66) rfl g 0 r66) hS uS
      ·intro f w1 hS hf aA hA
       have r67 := qA 67 8 hA sbPstt13 zsz (hf 8 (by decide))
       exact fV rfl rfl _ (fldP0 (.tmp 67) rfl g r67) hS uS
      ·intro f w1 hS hf aA hA
       have r68 := qA 68 9 hA sbPstt13 zsz (hf 9 (by decide))
       exact fV rfl rfl _ (fldT1 28 (Or.inl rfl) (.tmp 68) rfl g r68) hS uS
      ·intro f w1 hS hf aA hA
       have r69 := qA 69 10 hA sbPstt13 zsz (hf 10 (by decide))
       exact fV rfl rfl _ (ex_load1 26 (.tmp 69) rfl ⟨g, 1, none⟩ r69 (fun _ => by kernel_rfl) ((HP.out.box.keepB hS).cellv rfl)) hS uS
      ·intro f w1 hS hf aA hA
       have r9 := qO 9 hA z9
       exact fV rfl rfl _ (ex_move (.tmp 9) rfl r9) hS uS
      ·intro f w1 hS hf aA hA
       have r70 := qA 70 11 hA sbPstt13 zsz (hf 11 (by decide))
       have r71 := qA 71 12 hA sbPstt13 zsz (hf 12 (by decide))
       exact fV rfl rfl _ (ex_indexS 26 47 (.tmp 70) (.tmp 71) rfl (⟨gg, 0, none⟩ : Addr) (layTo putC PL x L i).length cap2 k 65 (by kernel_rfl) (fun _ => by kernel_rfl) (Eq.trans r70 HGV2.out) r71 hkl) hS uS
      ·intro f w1 hS hf aA hA
       have r72 := qA 72 13 hA sbPstt13 zsz (hf 13 (by decide))
       exact fV rfl rfl _ (ex_loadR 47 (.tmp 72) rfl ((⟨gg, 0, none⟩ : Addr).add (k * 65)) r72 (fun _ => by kernel_rfl) (encC (((layTo putC PL x L i)[k]))) (by rw [encC_len]; kernel_rfl) (HEL2.out w1 hS.block)) hS uS
      ·intro f w1 hS hf aA hA
       have r4 := qO 4 hA z4
       exact fV rfl rfl _ (ex_loadR 42 (.tmp 4) rfl ⟨b4_13, 0, none⟩ r4 (fun _ => by kernel_rfl) (encU x) (by rw [encU_len]; kernel_rfl) ((HX_b4_13.out.keepB hS).part (encU x) 0 (encU_all' x))) hS uS
      ·intro f w1 hS hf aA hA
       have r65 := qA 65 6 hA sbPstt13 zsz (hf 6 (by decide))
       have r73 := qA 73 14 hA sbPstt13 zsz (hf 14 (by decide))
       have r74 := qA 74 15 hA sbPstt13 zsz (hf 15 (by decide))
       exact flw_callV rfl rfl 33 (.tmp 65) r65 #[(.tmp 73), (.tmp 74)] _ rfl #[aggC (((layTo putC PL x L i)[k])), .agg (encU x).toArray] (mp2 r73 r74) (fun w => by kernel_rfl) (fun v _ => v = aggC (putC (((layTo putC PL x L i)[k])) x)) (put_any (((layTo putC PL x L i)[k])) x w1 (HL.out.keep (HB.out.trans (hS.mono HB.out.size)) HSZ.out)) (fun v w' hr hb => ⟨hS.trans (hb.mono hS.size), Flz.of hb, uS.trans hr⟩)
      ·intro f w1 hS hf aA hA
       have r63 := qA 63 4 hA sbPstt13 zsz (hf 4 (by decide))
       have r64 := qA 64 5 hA sbPstt13 zsz (hf 5 (by decide))
       exact fV rfl rfl _ (ex_indexS 26 47 (.tmp 63) (.tmp 64) rfl (⟨gg, 0, none⟩ : Addr) (layTo putC PL x L i).length cap2 k 65 (by kernel_rfl) (fun _ => by kernel_rfl) (Eq.trans r63 HGV2.out) r64 hkl) hS uS
     intro f u14 hS hf hap
     have h0 := eqL (hf 0 (by decide)) rfl
     have h1 := eqL (hf 1 (by decide)) rfl
     have h2 := eqL (hf 2 (by decide)) rfl
     have h3 := eqL (hf 3 (by decide)) rfl
     have h4 := eqL (hf 4 (by decide)) rfl
     have h5 := eqL (hf 5 (by decide)) rfl
     have h6 := eqL (hf 6 (by decide)) rfl
     have h7 := eqL (hf 7 (by decide)) rfl
     have h8 := eqL (hf 8 (by decide)) rfl
     have h9 := eqL (hf 9 (by decide)) rfl
     have h10 := eqL (hf 10 (by decide)) rfl
     have h11 := eqL (hf 11 (by decide)) rfl
     have h12 := eqL (hf 12 (by decide)) rfl
     have h13 := eqL (hf 13 (by decide)) rfl
     have h14 := eqL (hf 14 (by decide)) rfl
     have h15 := eqL (hf 15 (by decide)) rfl
     have h16 := eqL (hf 16 (by decide)) rfl
     have h17 := eqL (hf 17 (by decide)) rfl
     clear hf hap
     clear zsz z0 z9 z7 z4
     subst ha0
     simp only [slotsPstt13, putAll, h0, h1, h2, h3, h4, h5, h6, h7, h8, h9, h10, h11, h12, h13, h14, h15, h16, h17, Act.put, List.setIfInBounds_toArray, List.set_cons_zero, List.set_cons_succ]
     clear h0 h1 h2 h3 h4 h5 h6 h7 h8 h9 h10 h11 h12 h13 h14 h15 h16 h17
     have HP14 := Lib.hid (HP.out.keep hS)
     have HX14 := Lib.hid (HX_b4_13.out.keepB hS)
     have HN14 := Lib.hid (HN.out.keep hS)
     have HB14 := Lib.hid (HB.out.trans (hS.mono HB.out.size))
     clear HP HX_b4_13 HN HB hS
     have HOB : Hid (vL.ownBlock = some gg) := Lib.hid (by rw [HGV2.out]; rfl)
     have HGG := Lib.hid (HWL.out gg HOB.out)
     refine tl_step rfl rfl (fun K hK => wp_store_ce 47 (by kernel_rfl) (.tmp 76) (.tmp 75) rfl b 47 vL _ HP14.out.cells gg cap2 k HGV2.out hkl rfl _ rfl (fun u15 hR hbl hgr => hK _ _ ?_))
     have HG15 : Hid (u14.grownBy u15 (some gg)) := Lib.hid hgr
     have HP15 := Lib.hid (HP14.out.cell HGV2.out hR hgr)
     have HB15 := Lib.hid (HB14.out.grown hgr HB14.out.size (fun k' hk' => by obtain rfl := Option.some.inj hk'; exact Nat.le_trans HBB.out (HP14.out.cells.base _ HOB.out)))
     have HX15 : Hid (Has u15 b4_13 42 (encU x)) := Lib.hid ((hgr.block _ HX14.out.lt (fun e => (HX14.out.blkT.ne (HP14.out.cells.blkT gg HOB.out) (by decide)) (Option.some.inj e))).trans HX14.out)
     have HN15 := Lib.hid (HN14.out.off hgr (fun k' hk' => by obtain rfl := Option.some.inj hk'; exact HGG.out))
     clear hR hbl hgr HP14 HX14 HN14 HB14 HG15
     refine tl_nilN ?_
     try simp only [Act.put]
     go_upto_region 14 with fail
     refine wp_act (fun a0 ha0 => ?_)
     have zsz : a0.tmps.size = 81 := by rw [ha0]; rfl
     have z0 : a0.eval (.tmp 0) = .pointer (some ⟨g, 0, none⟩) := by rw [ha0]; rfl
     have z9 : a0.eval (.tmp 9) = .int .i64 ((k : Int)) := by rw [ha0]; rfl
     refine wrO [] slotsPstt14 waitPstt14 [Fct.val Flz 0 (.pointer (some ⟨g, 0, none⟩)), Fct.val Flz 1 (.int .i64 ((k : Int)))] (fun w' => Below u15.heap.size u15 w') _ 2 1 chkPstt14 (by kernel_rfl) (by kernel_rfl) (by kernel_rfl) (by decide) (Below.refl _ _) ?_ ?_
     ·refine lt_s (lt_s (lt_0) ?_) ?_
      ·intro f w1 hS hf aA hA
       have r0 := qO 0 hA z0
       exact fV rfl rfl _ (ex_move (.tmp 0) rfl r0) hS uS
      ·intro f w1 hS hf aA hA
       have r9 := qO 9 hA z9
       exact fV rfl rfl _ (ex_move (.tmp 9) rfl r9) hS uS
     intro f u16 hS hf hap
     have h0 := eqL (hf 0 (by decide)) rfl
     have h1 := eqL (hf 1 (by decide)) rfl
     clear hf hap
     clear zsz z0 z9
     subst ha0
     simp only [slotsPstt14, putAll, h0, h1, Act.put, List.setIfInBounds_toArray, List.set_cons_zero, List.set_cons_succ]
     clear h0 h1
     have HP16 := Lib.hid (HP15.out.keep hS)
     have HX16 := Lib.hid (HX15.out.keepB hS)
     have HN16 := Lib.hid (HN15.out.keep hS)
     have HB16 := Lib.hid (HB15.out.trans (hS.mono HB15.out.size))
     clear HP15 HX15 HN15 HB15 hS
     have hks : k < ((layTo putC PL x L i).set k (putC (layTo putC PL x L i)[k] x)).length := by rw [List.length_set]; exact hkl
     have HAS : Hid ((aloneL s (layTo putC PL x L i)).set k (alone s ((layTo putC PL x L i).set k (putC (layTo putC PL x L i)[k] x)).length ((layTo putC PL x L i).set k (putC (layTo putC PL x L i)[k] x))[k] k) = aloneL s ((layTo putC PL x L i).set k (putC (layTo putC PL x L i)[k] x))) := Lib.hid (aloneL_set s _ k _ hkl)
     refine tl_call rfl rfl 51 #[(.tmp 77), (.tmp 78)] _ rfl #[.pointer (some ⟨g, 0, none⟩), .int .i64 (k : Int)] (by kernel_rfl) (fun w => by kernel_rfl) _ (look_b b g s ((layTo putC PL x L i).set k (putC (layTo putC PL x L i)[k] x)) (aloneL s (layTo putC PL x L i)) (P) (M ++ [x]) vL vA vP vn k hks (by rw [aloneL_len, List.length_set]) w u16 HB16.out HSD.out HL.out HP16.out) ?_
     rintro e u17 ⟨⟨z, rfl⟩, hp, hg⟩
     refine ⟨z, rfl, ?_⟩
     rw [HAS.out, ← HNX.out] at hp
     have HP := Lib.hid hp
     have HB := Lib.hid (HB16.out.grown hg HB16.out.size (fun k' hk' => Nat.le_trans HBB.out (HVB.out k' hk')))
     have HX_b4_13 : Hid (Has u17 b4_13 42 (encU x)) := Lib.hid ((hg.block _ HX16.out.lt (fun e => (HX16.out.blkT.ne (HP16.out.bools.blkT _ e.symm) (by decide)) rfl)).trans HX16.out)
     have HN := Lib.hid (HN16.out.off hg (fun k' hk' => HWA.out k' hk'))
     clear hp hg HP16 HX16 HN16 HB16
     try simp only [Act.put]
     refine tl_nil ?_
     go_wp2_with fail
     go_roundw
     case rel => exact ⟨i + 1, by omega, by go_num, HP.out, HX_b4_13.out, HN.out, HB.out⟩
     case measure => simp [intOf]; omega
    ·obtain rfl : i = PL.length := by omega
     have k3 : ¬ (PL.length : Int) < (PL.length : Int) := by omega
     have hpe := HP.out
     rw [HALL.out] at hpe
     go_wp2_with fail
     go_ret
     have HSQ : stepQ s (L, P, M) = (layT putC s x L, P, M ++ [x]) := by unfold stepQ; rw [HST.out, HTK.out]; rfl
     exact ⟨⟨by rw [HST.out]; rfl, vL, vA, vP, vn, by rw [HSQ]; exact hpe⟩, HB.out⟩
end Go.Proofs.YtnkcehmgagpadaaDoor
/- Contracts: slices.Grow of none, slices.Concat of two rows of sums, package peel's twice. Condition: at most 10^5 sums. -/
namespace Go.Proofs.YtnkcehmgagpadaaDoor
open Go.RowKit
set_option maxHeartbeats 4000000 in
set_option maxRecDepth 100000 in
theorem growNil_any (n : Nat) (hn : n ≤ 1000000) (w : World) : Calls Tryd.prog 70 #[.slice none 0 0, .int .i64 (n : Int)] w fun e w' => (∃ v, e = .returned v ∧ RowS w.heap.size w' v []) ∧ Below w.heap.size w w' := by
 have h1 : ¬ ((n : Int) < 0) := by omega
 have h3 : wrap64 (n : Int) = n := by unfold wrap64; omega
 by_cases h0 : n = 0
 ·subst h0
  go_enter Tryd.func70, Tryd.ntmps70
  go_wp2_with fail
  go_ret
  exact ⟨⟨_, rfl, OwnU.nil _ _ _⟩, Below.refl _ _⟩
 ·have h4 : (n : Int) > 0 := by omega
  obtain ⟨i0, hi, hz0, hz1, hz2⟩ := info_parts elSum.2.2
  have hfit : Builtin.nextslicecap (0 + n) 0 * i0.bytes ≤ 281474976710656 := by
   rw [hz2]
   exact growslice_fits (by omega) (by omega)
  have hrz : ∀ ty, (Builtin.append_ #[23, 3] ty #[.slice none 0 0, .int .i64 (n : Int)]).run Tryd.prog w = .ok (.slice (some ⟨w.heap.size, 0, none⟩) (0 + n) (grownCap w (0 + n) 0 42)) (w.drew.alloc (.cells (#[] ++ Builtin.zeroCells (Value.agg (Array.replicate 32 (.int .u8 0))).cells n ++ Builtin.zeroCells (Value.agg (Array.replicate 32 (.int .u8 0))).cells (grownCap w (0 + n) 0 42 - (0 + n))) 42)) := fun ty =>
   Lib.run_append_grow_zeros w 23 3 ty 42 i0 _ .i64 .i64 elSum.1 (by kernel_rfl) hi hz0 none 0 0 [] (run_firstCells_none w.drew i0.size 0 0 0) n (by omega) (by rw [hz1]; decide) (by omega) (by omega) (by rw [hz2]; omega) hfit
  have hge : n ≤ grownCap w (0 + n) 0 42 := by have := grownCap_ge w (0 + n) 0 42; omega
  have hcm := grownCap_le_maxLen w (0 + n) 0 42 (by unfold maxLen; omega)
  rw [Nat.zero_add] at hrz hge hcm
  obtain ⟨G, hG⟩ : ∃ G, grownCap w n 0 42 = G := ⟨_, rfl⟩
  rw [hG] at hrz hge hcm
  have HR : Hid (RowS w.heap.size (w.drew.alloc (.cells (#[] ++ Builtin.zeroCells (Value.agg (Array.replicate 32 (.int .u8 0))).cells n ++ Builtin.zeroCells (Value.agg (Array.replicate 32 (.int .u8 0))).cells (G - n)) 42)) (.slice (some ⟨w.heap.size, 0, none⟩) 0 G) []) := Lib.hid (by
   refine ⟨rfl, .inr ⟨w.heap.size, G, _, rfl, Nat.le_refl _, heap_alloc_new w.drew _, Nat.zero_le _, hcm, ?_, by simp [rowU]⟩⟩
   have hs : (Value.agg (Array.replicate 32 (Value.int .u8 0))).cells.size = 32 := by show (Array.replicate 32 (Value.int .u8 0)).size = 32; rw [Array.size_replicate]
   rw [Array.size_append, Array.size_append, size_zeroCells, size_zeroCells, hs]
   simp only [List.size_toArray, List.length_nil]
   omega)
  have HB : Hid (Below w.heap.size w (w.drew.alloc (.cells (#[] ++ Builtin.zeroCells (Value.agg (Array.replicate 32 (.int .u8 0))).cells n ++ Builtin.zeroCells (Value.agg (Array.replicate 32 (.int .u8 0))).cells (G - n)) 42))) := Lib.hid ((Below.refl _ _).drew.alloc (Nat.le_refl _) _)
  clear hfit hi hz0 hz1 hz2
  generalize w.drew.alloc (.cells (#[] ++ Builtin.zeroCells (Value.agg (Array.replicate 32 (.int .u8 0))).cells n ++ Builtin.zeroCells (Value.agg (Array.replicate 32 (.int .u8 0))).cells (G - n)) 42) = w2 at *
  go_enter Tryd.func70, Tryd.ntmps70
  go_wp2_with (at_builtin; refine Lib.wpList_append_run _ rfl _ _ _ _ rfl _ _ rfl rfl _ _ (hrz _) ?_)
  go_ret
  exact ⟨⟨_, rfl, HR.out⟩, HB.out⟩
theorem Us.cs_sl {w : World} {v : Value} {L : List Su} (h : Us w v L) : ∃ q n c, v = .slice q n c := by obtain ⟨q, c, rfl, _⟩ := h; exact ⟨_, _, _, rfl⟩
theorem RowS.cs_sl {b : Nat} {w : World} {v : Value} {L : List Su} (h : RowS b w v L) : ∃ q n c, v = .slice q n c := (OwnU.us h).cs_sl
theorem wp_two_ss {o : Oper} {a : Act} {w : World} {Q : Exit → Act → World → Prop} {K : Act → World → Prop} (x y : Operand) (ho : o.op = .buildSlice 113 2 #[(0, x), (1, y)]) (u v : Value) (hx : a.eval x = u) (hy : a.eval y = v) (hu : ∃ q n c, u = .slice q n c) (hv : ∃ q n c, v = .slice q n c)
  (h : K (a.put o.dst (.slice (some ⟨w.heap.size, 0, none⟩) 2 2)) (w.alloc (.cells #[u, v] 23))) : o.wp Tryd.prog a w K Q := by
 obtain ⟨qu, nu, cu, rfl⟩ := hu
 obtain ⟨qv, nv, cv, rfl⟩ := hv
 obtain ⟨i0, hi, hz0, hz1, hz2⟩ := info_parts (show (Tryd.prog.info? 23).map (fun i => (i.zero, i.size, i.bytes)) = some (some (.slice none 0 0), 1, 24) by kernel_rfl)
 refine wp_buildSlice 113 23 2 _ ho #[.slice qu nu cu, .slice qv nv cv] i0 _ Tryd.underlying113 hi hz0 (by rw [hz1]; omega) (by rw [hz1]; omega) ?_ h
 rw [hz1]
 simp only [List.map_toArray, List.map_cons, List.map_nil, hx, hy]
 kernel_rfl
theorem growNil_in (n : Nat) (hn : n ≤ 1000000) (w : World) (b : Nat) (hb : b ≤ w.heap.size) : Calls Tryd.prog 70 #[.slice none 0 0, .int .i64 (n : Int)] w fun e w' => (∃ v, e = .returned v ∧ ∃ x, v = x ∧ RowS b w' x []) ∧ Below w.heap.size w w' :=
 Calls.mono (growNil_any n hn w) fun _ _ ⟨⟨u, h1, h2⟩, h3⟩ => ⟨⟨u, h1, u, rfl, h2.less hb⟩, h3⟩
def waitCct0 (i : Nat) : List Nat := ([[]] : List (List Nat)).getD i []
def slotsCct0 : List (Nat × Nat) := [(2, 0)]
theorem chkCct0 : flwO slotsCct0 waitCct0 1 (regOf Tryd.f55.body 0) = true := by kernel_rfl
def waitCct1 (i : Nat) : List Nat := ([[]] : List (List Nat)).getD i []
def slotsCct1 : List (Nat × Nat) := [(3, 0)]
theorem chkCct1 : flwO slotsCct1 waitCct1 1 (regOf Tryd.f55.body 1) = true := by kernel_rfl
def waitCct2 (i : Nat) : List Nat := ([[], [0], []] : List (List Nat)).getD i []
def slotsCct2 : List (Nat × Nat) := [(9, 0), (10, 1), (11, 2)]
theorem sbCct2 : slotsB slotsCct2 = true := by kernel_rfl
theorem chkCct2 : flwO slotsCct2 waitCct2 3 (regOf Tryd.f55.body 2) = true := by kernel_rfl
def waitCc04 (i : Nat) : List Nat := ([[], [0], [1]] : List (List Nat)).getD i []
def slotsCc04 : List (Nat × Nat) := [(13, 0), (14, 1), (5, 2)]
theorem sbCc04 : slotsB slotsCc04 = true := by kernel_rfl
theorem chkCc04 : flwO slotsCc04 waitCc04 3 (regOf Tryd.f55.body 4) = true := by kernel_rfl
def waitCc06 (i : Nat) : List Nat := ([[], [0]] : List (List Nat)).getD i []
def slotsCc06 : List (Nat × Nat) := [(19, 0), (20, 1)]
theorem sbCc06 : slotsB slotsCc06 = true := by kernel_rfl
theorem chkCc06 : flwO slotsCc06 waitCc06 2 (regOf Tryd.f55.body 6) = true := by kernel_rfl
def waitCce9 (i : Nat) : List Nat := ([[], [0], [1]] : List (List Nat)).getD i []
def slotsCce9 : List (Nat × Nat) := [(23, 0), (24, 1), (6, 2)]
theorem sbCce9 : slotsB slotsCce9 = true := by kernel_rfl
theorem chkCce9 : flwO slotsCce9 waitCce9 3 (regOf Tryd.f55.body 9) = true := by kernel_rfl
def waitCce10 (i : Nat) : List Nat := ([[], [0], []] : List (List Nat)).getD i []
def slotsCce10 : List (Nat × Nat) := [(25, 0), (26, 1), (27, 2)]
theorem sbCce10 : slotsB slotsCce10 = true := by kernel_rfl
theorem chkCce10 : flwO slotsCce10 waitCce10 3 (regOf Tryd.f55.body 10) = true := by kernel_rfl
def waitCd012 (i : Nat) : List Nat := ([[], [0], [1]] : List (List Nat)).getD i []
def slotsCd012 : List (Nat × Nat) := [(29, 0), (30, 1), (8, 2)]
theorem sbCd012 : slotsB slotsCd012 = true := by kernel_rfl
theorem chkCd012 : flwO slotsCd012 waitCd012 3 (regOf Tryd.f55.body 12) = true := by kernel_rfl
set_option maxHeartbeats 16000000 in
set_option maxRecDepth 100000 in
theorem concat2_any (k : Nat) (vP vM : Value) (P M : List Su) (w : World) (hH : Has w k 23 [vP, vM]) (hP : Us w vP P) (hM : Us w vM M) (hn : P.length + M.length ≤ 100000) :
  Calls Tryd.prog 55 #[.slice (some ⟨k, 0, none⟩) 2 2] w fun e w' => (∃ v, e = .returned v ∧ Us w' v (P ++ M)) ∧ Below w.heap.size w w' := by
 have HH := Lib.hid hH
 have HP := Lib.hid hP
 have HM := Lib.hid hM
 have HN := Lib.hid hn
 obtain ⟨w0, hw0⟩ : ∃ w0, w0 = w := ⟨_, rfl⟩
 rw [show (Calls Tryd.prog 55 #[.slice (some ⟨k, 0, none⟩) 2 2] w : (Ending → World → Prop) → Prop) = Calls Tryd.prog 55 #[.slice (some ⟨k, 0, none⟩) 2 2] w0 by rw [hw0]]
 have HB : Hid (Below w.heap.size w w0) := Lib.hid (by rw [hw0]; exact Below.refl _ _)
 clear hw0 hH hP hM
 go_enter Tryd.func55, Tryd.ntmps55
 go_upto_region 0 with fail
 refine wp_act (fun a0 ha0 => ?_)
 have zsz : a0.tmps.size = 36 := by rw [ha0]; rfl
 refine wrO [] slotsCct0 waitCct0 [Fct.val Flz 0 (.slice none 0 0)] (fun w' => Below w0.heap.size w0 w') _ 1 0 chkCct0 (by kernel_rfl) (by kernel_rfl) (by kernel_rfl) (by decide) (Below.refl _ _) ?_ ?_
 ·refine lt_s (lt_0) ?_
  ·intro f w1 hS hf aA hA
   exact fV rfl rfl (.slice none 0 0) (ex_assign _ rfl rfl) hS uS
 intro f u0 hS hf hap
 have h0 := eqL (hf 0 (by decide)) rfl
 clear hf hap
 clear zsz
 subst ha0
 simp only [slotsCct0, putAll, h0, Act.put, List.setIfInBounds_toArray, List.set_cons_zero, List.set_cons_succ]
 clear h0
 refine tl_nil ?_
 replace HB := Lib.hid (HB.out.trans (hS.mono HB.out.size))
 clear hS
 go_upto_region 1 with fail
 refine wp_act (fun a0 ha0 => ?_)
 have zsz : a0.tmps.size = 36 := by rw [ha0]; rfl
 refine wrO [] slotsCct1 waitCct1 [Fct.val Flz 0 (.int .i64 0)] (fun w' => Below u0.heap.size u0 w') _ 1 0 chkCct1 (by kernel_rfl) (by kernel_rfl) (by kernel_rfl) (by decide) (Below.refl _ _) ?_ ?_
 ·refine lt_s (lt_0) ?_
  ·intro f w1 hS hf aA hA
   exact fV rfl rfl (.int .i64 0) (ex_assign _ rfl rfl) hS uS
 intro f u1 hS hf hap
 have h0 := eqL (hf 0 (by decide)) rfl
 clear hf hap
 clear zsz
 subst ha0
 simp only [slotsCct1, putAll, h0, Act.put, List.setIfInBounds_toArray, List.set_cons_zero, List.set_cons_succ]
 clear h0
 refine tl_nil ?_
 replace HB := Lib.hid (HB.out.trans (hS.mono HB.out.size))
 clear hS
 go_upto_region 2 with fail
 refine wp_act (fun a0 ha0 => ?_)
 have zsz : a0.tmps.size = 36 := by rw [ha0]; rfl
 have z0 : a0.eval (.tmp 0) = .slice (some ⟨k, 0, none⟩) 2 2 := by rw [ha0]; rfl
 refine wrO [] slotsCct2 waitCct2 [Fct.val Flz 0 (.slice (some ⟨k, 0, none⟩) 2 2), Fct.val Flz 1 (.int .i64 ((2 : Int))), Fct.val Flz 2 (.int .i64 0)] (fun w' => Below u1.heap.size u1 w') _ 3 0 chkCct2 (by kernel_rfl) (by kernel_rfl) (by kernel_rfl) (by decide) (Below.refl _ _) ?_ ?_
 ·refine lt_s (lt_s (lt_s (lt_0) ?_) ?_) ?_
  ·intro f w1 hS hf aA hA
   have r0 := qO 0 hA z0
   exact fV rfl rfl _ (ex_move (.tmp 0) rfl r0) hS uS
  ·intro f w1 hS hf aA hA
   have r9 := qA 9 0 hA sbCct2 zsz (hf 0 (by decide))
   exact fV rfl rfl _ (ex_len 113 23 (.tmp 9) rfl (by kernel_rfl) (some ⟨k, 0, none⟩) 2 2 r9) hS uS
  ·intro f w1 hS hf aA hA
   exact fV rfl rfl (.int .i64 0) (ex_move _ rfl rfl) hS uS
 intro f u2 hS hf hap
 have h0 := eqL (hf 0 (by decide)) rfl
 have h1 := eqL (hf 1 (by decide)) rfl
 have h2 := eqL (hf 2 (by decide)) rfl
 clear hf hap
 clear zsz z0
 subst ha0
 simp only [slotsCct2, putAll, h0, h1, h2, Act.put, List.setIfInBounds_toArray, List.set_cons_zero, List.set_cons_succ]
 clear h0 h1 h2
 refine tl_nil ?_
 replace HB := Lib.hid (HB.out.trans (hS.mono HB.out.size))
 clear hS
 go_wp2_with fail
 go_loopw [3, 11] (fun vs vi wr => ((vi = .int .i64 0 ∧ vs = .int .i64 0) ∨ (vi = .int .i64 1 ∧ vs = .int .i64 (P.length : Int)) ∨ (vi = .int .i64 2 ∧ vs = .int .i64 ((P.length + M.length : Nat) : Int))) ∧ Below w.heap.size w wr) (fun _ vi _ => 2 - (intOf vi).toNat)
 case atStart => exact ⟨.inl ⟨rfl, rfl⟩, HB.out⟩
 case round =>
  clear HB
  rename_i wr
  obtain ⟨hc3, hB⟩ := hrel
  have HB := Lib.hid hB
  clear hB
  rcases hc3 with ⟨rfl, rfl⟩ | ⟨rfl, rfl⟩ | ⟨rfl, rfl⟩
  ·have HEL : Hid (∀ w' : World, (∀ k, k < wr.heap.size → w'.heap[k]? = wr.heap[k]?) → w'.cell? ((⟨k, 0, none⟩ : Addr).add (0 * 1)) = some vP) := Lib.hid (fun w' hw => by
    have h4 := HH.out.keepB HB.out
    have h5 : Has w' k 23 [vP, vM] := (hw k h4.lt).trans h4
    rw [add_lit', Nat.mul_one, Nat.zero_add]
    exact h5.cellv rfl)
   go_upto_region 4 with fail
   refine wp_act (fun a0 ha0 => ?_)
   have zsz : a0.tmps.size = 36 := by rw [ha0]; rfl
   have z9 : a0.eval (.tmp 9) = .slice (some ⟨k, 0, none⟩) 2 2 := by rw [ha0]; rfl
   have z11 : a0.eval (.tmp 11) = .int .i64 0 := by rw [ha0]; rfl
   refine wrO [] slotsCc04 waitCc04 [Fct.val Flz 0 (.pointer (some ((⟨k, 0, none⟩ : Addr).add (0 * 1)))), Fct.val Flz 1 (vP), Fct.val Flz 2 (vP)] (fun w' => Below wr.heap.size wr w') _ 3 0 chkCc04 (by kernel_rfl) (by kernel_rfl) (by kernel_rfl) (by decide) (Below.refl _ _) ?_ ?_
   ·refine lt_s (lt_s (lt_s (lt_0) ?_) ?_) ?_
    ·intro f w1 hS hf aA hA
     have r9 := qO 9 hA z9
     have r11 := qO 11 hA z11
     exact fV rfl rfl _ (ex_indexS 113 23 (.tmp 9) (.tmp 11) rfl (⟨k, 0, none⟩ : Addr) 2 2 0 1 (by kernel_rfl) (fun _ => by kernel_rfl) r9 r11 (by decide)) hS uS
    ·intro f w1 hS hf aA hA
     have r13 := qA 13 0 hA sbCc04 zsz (hf 0 (by decide))
     exact fV rfl rfl _ (ex_load1 23 (.tmp 13) rfl ((⟨k, 0, none⟩ : Addr).add (0 * 1)) r13 (fun _ => by kernel_rfl) (HEL.out w1 hS.block)) hS uS
    ·intro f w1 hS hf aA hA
     have r14 := qA 14 1 hA sbCc04 zsz (hf 1 (by decide))
     exact fV rfl rfl _ (ex_assign (.tmp 14) rfl r14) hS uS
   intro f u3 hS hf hap
   have h0 := eqL (hf 0 (by decide)) rfl
   have h1 := eqL (hf 1 (by decide)) rfl
   have h2 := eqL (hf 2 (by decide)) rfl
   clear hf hap
   clear zsz z9 z11
   subst ha0
   simp only [slotsCc04, putAll, h0, h1, h2, Act.put, List.setIfInBounds_toArray, List.set_cons_zero, List.set_cons_succ]
   clear h0 h1 h2
   refine tl_nil ?_
   replace HB := Lib.hid (HB.out.trans (hS.mono HB.out.size))
   clear hS
   go_upto_region 5 with fail
   refine wp_region_lit ?_
   try simp only [Act.put, List.setIfInBounds_toArray, List.set_cons_zero, List.set_cons_succ]
   refine lp_pure (v := .int .i64 0) rfl (ex_move (.tmp 3) rfl rfl) ?_
   try simp only [Act.put, List.setIfInBounds_toArray, List.set_cons_zero, List.set_cons_succ]
   refine lp_pure (v := vP) rfl (ex_move (.tmp 5) rfl rfl) ?_
   try simp only [Act.put, List.setIfInBounds_toArray, List.set_cons_zero, List.set_cons_succ]
   obtain ⟨q9, c9, hv9, _⟩ := HP.out
   refine lp_pure (v := .int .i64 (P.length : Int)) rfl (ex_len 23 42 (.tmp 16) rfl (by kernel_rfl) q9 P.length c9 (Eq.trans rfl hv9)) ?_
   clear hv9
   try simp only [Act.put, List.setIfInBounds_toArray, List.set_cons_zero, List.set_cons_succ]
   refine lp_pure (v := .int .i64 (IntKind.i64.wrap (0 + ((P).length : Int)))) rfl (ex_int .add _ _ (.tmp 15) (.tmp 17) rfl .i64 0 (P.length : Int) rfl rfl _ (fun _ => rfl)) ?_
   try simp only [Act.put, List.setIfInBounds_toArray, List.set_cons_zero, List.set_cons_succ]
   refine lp_pure (v := .int .i64 (IntKind.i64.wrap (0 + ((P).length : Int)))) rfl (ex_assign (.tmp 18) rfl rfl) ?_
   try simp only [Act.put, List.setIfInBounds_toArray, List.set_cons_zero, List.set_cons_succ]
   refine wpList_nil ?_
   have HSZ : Hid (IntKind.i64.wrap (0 + ((P).length : Int)) = (P.length : Int)) := Lib.hid (by have := HN.out; rw [IntKind.wrap_i64]; omega)
   have HLT : Hid (decide ((IntKind.i64.wrap (0 + ((P).length : Int))) < (0 : Int)) = false) := Lib.hid (by rw [HSZ.out]; exact decide_eq_false (by omega))
   go_upto_region 6 with fail
   refine wp_act (fun a0 ha0 => ?_)
   have zsz : a0.tmps.size = 36 := by rw [ha0]; rfl
   have z3 : a0.eval (.tmp 3) = .int .i64 (IntKind.i64.wrap (0 + ((P).length : Int))) := by rw [ha0]; rfl
   refine wrO [] slotsCc06 waitCc06 [Fct.val Flz 0 (.int .i64 (IntKind.i64.wrap (0 + ((P).length : Int)))), Fct.val Flz 1 (.bool false)] (fun w' => Below u3.heap.size u3 w') _ 2 0 chkCc06 (by kernel_rfl) (by kernel_rfl) (by kernel_rfl) (by decide) (Below.refl _ _) ?_ ?_
   ·refine lt_s (lt_s (lt_0) ?_) ?_
    ·intro f w1 hS hf aA hA
     have r3 := qO 3 hA z3
     exact fV rfl rfl _ (ex_move (.tmp 3) rfl r3) hS uS
    ·intro f w1 hS hf aA hA
     have r19 := qA 19 0 hA sbCc06 zsz (hf 0 (by decide))
     exact fV rfl rfl _ (Eq.trans (ex_int .lss _ _ (.tmp 19) _ rfl .i64 (IntKind.i64.wrap (0 + ((P).length : Int))) 0 r19 rfl (.bool (decide ((IntKind.i64.wrap (0 + ((P).length : Int))) < (0 : Int)))) (fun _ => rfl)) (by rw [HLT.out])) hS uS
   intro f u5 hS hf hap
   have h0 := eqL (hf 0 (by decide)) rfl
   have h1 := eqL (hf 1 (by decide)) rfl
   clear hf hap
   clear zsz z3
   subst ha0
   simp only [slotsCc06, putAll, h0, h1, Act.put, List.setIfInBounds_toArray, List.set_cons_zero, List.set_cons_succ]
   clear h0 h1
   refine tl_nil ?_
   replace HB := Lib.hid (HB.out.trans (hS.mono HB.out.size))
   clear hS
   go_wp2_with fail
   go_roundw
   case rel => exact ⟨.inr (.inl ⟨by first | rfl | decide | go_num, congrArg (Value.int .i64) HSZ.out⟩), HB.out⟩
   case measure => first | decide | (simp [intOf]; try omega)
  ·have HEL : Hid (∀ w' : World, (∀ k, k < wr.heap.size → w'.heap[k]? = wr.heap[k]?) → w'.cell? ((⟨k, 0, none⟩ : Addr).add (1 * 1)) = some vM) := Lib.hid (fun w' hw => by
    have h4 := HH.out.keepB HB.out
    have h5 : Has w' k 23 [vP, vM] := (hw k h4.lt).trans h4
    rw [add_lit', Nat.mul_one, Nat.zero_add]
    exact h5.cellv rfl)
   go_upto_region 4 with fail
   refine wp_act (fun a0 ha0 => ?_)
   have zsz : a0.tmps.size = 36 := by rw [ha0]; rfl
   have z9 : a0.eval (.tmp 9) = .slice (some ⟨k, 0, none⟩) 2 2 := by rw [ha0]; rfl
   have z11 : a0.eval (.tmp 11) = .int .i64 1 := by rw [ha0]; rfl
   refine wrO [] slotsCc04 waitCc04 [Fct.val Flz 0 (.pointer (some ((⟨k, 0, none⟩ : Addr).add (1 * 1)))), Fct.val Flz 1 (vM), Fct.val Flz 2 (vM)] (fun w' => Below wr.heap.size wr w') _ 3 0 chkCc04 (by kernel_rfl) (by kernel_rfl) (by kernel_rfl) (by decide) (Below.refl _ _) ?_ ?_
   ·refine lt_s (lt_s (lt_s (lt_0) ?_) ?_) ?_
    ·intro f w1 hS hf aA hA
     have r9 := qO 9 hA z9
     have r11 := qO 11 hA z11
     exact fV rfl rfl _ (ex_indexS 113 23 (.tmp 9) (.tmp 11) rfl (⟨k, 0, none⟩ : Addr) 2 2 1 1 (by kernel_rfl) (fun _ => by kernel_rfl) r9 r11 (by decide)) hS uS
    ·intro f w1 hS hf aA hA
     have r13 := qA 13 0 hA sbCc04 zsz (hf 0 (by decide))
     exact fV rfl rfl _ (ex_load1 23 (.tmp 13) rfl ((⟨k, 0, none⟩ : Addr).add (1 * 1)) r13 (fun _ => by kernel_rfl) (HEL.out w1 hS.block)) hS uS
    ·intro f w1 hS hf aA hA
     have r14 := qA 14 1 hA sbCc04 zsz (hf 1 (by decide))
     exact fV rfl rfl _ (ex_assign (.tmp 14) rfl r14) hS uS
   intro f u3 hS hf hap
   have h0 := eqL (hf 0 (by decide)) rfl
   have h1 := eqL (hf 1 (by decide)) rfl
   have h2 := eqL (hf 2 (by decide)) rfl
   clear hf hap
   clear zsz z9 z11
   subst ha0
   simp only [slotsCc04, putAll, h0, h1, h2, Act.put, List.setIfInBounds_toArray, List.set_cons_zero, List.set_cons_succ]
   clear h0 h1 h2
   refine tl_nil ?_
   replace HB := Lib.hid (HB.out.trans (hS.mono HB.out.size))
   clear hS
   go_upto_region 5 with fail
   refine wp_region_lit ?_
   try simp only [Act.put, List.setIfInBounds_toArray, List.set_cons_zero, List.set_cons_succ]
   refine lp_pure (v := .int .i64 ((P.length : Int))) rfl (ex_move (.tmp 3) rfl rfl) ?_
   try simp only [Act.put, List.setIfInBounds_toArray, List.set_cons_zero, List.set_cons_succ]
   refine lp_pure (v := vM) rfl (ex_move (.tmp 5) rfl rfl) ?_
   try simp only [Act.put, List.setIfInBounds_toArray, List.set_cons_zero, List.set_cons_succ]
   obtain ⟨q9, c9, hv9, _⟩ := HM.out
   refine lp_pure (v := .int .i64 (M.length : Int)) rfl (ex_len 23 42 (.tmp 16) rfl (by kernel_rfl) q9 M.length c9 (Eq.trans rfl hv9)) ?_
   clear hv9
   try simp only [Act.put, List.setIfInBounds_toArray, List.set_cons_zero, List.set_cons_succ]
   refine lp_pure (v := .int .i64 (IntKind.i64.wrap (((P.length : Int)) + ((M).length : Int)))) rfl (ex_int .add _ _ (.tmp 15) (.tmp 17) rfl .i64 ((P.length : Int)) (M.length : Int) rfl rfl _ (fun _ => rfl)) ?_
   try simp only [Act.put, List.setIfInBounds_toArray, List.set_cons_zero, List.set_cons_succ]
   refine lp_pure (v := .int .i64 (IntKind.i64.wrap (((P.length : Int)) + ((M).length : Int)))) rfl (ex_assign (.tmp 18) rfl rfl) ?_
   try simp only [Act.put, List.setIfInBounds_toArray, List.set_cons_zero, List.set_cons_succ]
   refine wpList_nil ?_
   have HSZ : Hid (IntKind.i64.wrap (((P.length : Int)) + ((M).length : Int)) = ((P.length + M.length : Nat) : Int)) := Lib.hid (by have := HN.out; rw [IntKind.wrap_i64]; omega)
   have HLT : Hid (decide ((IntKind.i64.wrap (((P.length : Int)) + ((M).length : Int))) < (0 : Int)) = false) := Lib.hid (by rw [HSZ.out]; exact decide_eq_false (by omega))
   go_upto_region 6 with fail
   refine wp_act (fun a0 ha0 => ?_)
   have zsz : a0.tmps.size = 36 := by rw [ha0]; rfl
   have z3 : a0.eval (.tmp 3) = .int .i64 (IntKind.i64.wrap (((P.length : Int)) + ((M).length : Int))) := by rw [ha0]; rfl
   refine wrO [] slotsCc06 waitCc06 [Fct.val Flz 0 (.int .i64 (IntKind.i64.wrap (((P.length : Int)) + ((M).length : Int)))), Fct.val Flz 1 (.bool false)] (fun w' => Below u3.heap.size u3 w') _ 2 0 chkCc06 (by kernel_rfl) (by kernel_rfl) (by kernel_rfl) (by decide) (Below.refl _ _) ?_ ?_
   ·refine lt_s (lt_s (lt_0) ?_) ?_
    ·intro f w1 hS hf aA hA
     have r3 := qO 3 hA z3
     exact fV rfl rfl _ (ex_move (.tmp 3) rfl r3) hS uS
    ·intro f w1 hS hf aA hA
     have r19 := qA 19 0 hA sbCc06 zsz (hf 0 (by decide))
     exact fV rfl rfl _ (Eq.trans (ex_int .lss _ _ (.tmp 19) _ rfl .i64 (IntKind.i64.wrap (((P.length : Int)) + ((M).length : Int))) 0 r19 rfl (.bool (decide ((IntKind.i64.wrap (((P.length : Int)) + ((M).length : Int))) < (0 : Int)))) (fun _ => rfl)) (by rw [HLT.out])) hS uS
   intro f u5 hS hf hap
   have h0 := eqL (hf 0 (by decide)) rfl
   have h1 := eqL (hf 1 (by decide)) rfl
   clear hf hap
   clear zsz z3
   subst ha0
   simp only [slotsCc06, putAll, h0, h1, Act.put, List.setIfInBounds_toArray, List.set_cons_zero, List.set_cons_succ]
   clear h0 h1
   refine tl_nil ?_
   replace HB := Lib.hid (HB.out.trans (hS.mono HB.out.size))
   clear hS
   go_wp2_with fail
   go_roundw
   case rel => exact ⟨.inr (.inr ⟨by first | rfl | decide | go_num, congrArg (Value.int .i64) HSZ.out⟩), HB.out⟩
   case measure => first | decide | (simp [intOf]; try omega)
  ·have HNN : Hid (P.length + M.length ≤ 1000000) := Lib.hid (by have := HN.out; omega)
   have HWR : Hid (w.heap.size ≤ wr.heap.size) := Lib.hid HB.out.size
   go_upto_region 9 with fail
   refine wp_act (fun a0 ha0 => ?_)
   have zsz : a0.tmps.size = 36 := by rw [ha0]; rfl
   have z3 : a0.eval (.tmp 3) = .int .i64 (((P.length + M.length : Nat) : Int)) := by rw [ha0]; rfl
   refine wrO [] slotsCce9 waitCce9 [Fct.val Flz 0 (.int .i64 (((P.length + M.length : Nat) : Int))), Fct.obj 1 (fun v w => ∃ zz, v = zz ∧ RowS wr.heap.size w zz (([] : List Su))) (fun _ _ _ ⟨zz, a, b⟩ he => ⟨zz, a, b.flz he⟩), Fct.obj 2 (fun v w => ∃ zz, v = zz ∧ RowS wr.heap.size w zz (([] : List Su))) (fun _ _ _ ⟨zz, a, b⟩ he => ⟨zz, a, b.flz he⟩)] (fun w' => Below wr.heap.size wr w') _ 3 0 chkCce9 (by kernel_rfl) (by kernel_rfl) (by kernel_rfl) (by decide) (Below.refl _ _) ?_ ?_
   ·refine lt_s (lt_s (lt_s (lt_0) ?_) ?_) ?_
    ·intro f w1 hS hf aA hA
     have r3 := qO 3 hA z3
     exact fV rfl rfl _ (ex_move (.tmp 3) rfl r3) hS uS
    ·intro f w1 hS hf aA hA
     have r23 := qA 23 0 hA sbCce9 zsz (hf 0 (by decide))
     exact fC rfl rfl 70 #[_, (.tmp 23)] _ rfl #[.slice none 0 0, .int .i64 (((P.length + M.length : Nat) : Int))] (by simp only [List.map_toArray, List.map_cons, List.map_nil, r23]; rfl) (fun w => by kernel_rfl) _ (growNil_in (P.length + M.length) HNN.out w1 wr.heap.size hS.size) hS (fun _ _ ⟨zz, a, b⟩ => ⟨zz, uS.trans a, b⟩)
    ·intro f w1 hS hf aA hA
     obtain ⟨x24, hx24, hr24⟩ := hf 1 (by decide)
     have e24 := pA 24 1 hA sbCce9 (by kernel_rfl) zsz rfl hx24
     exact flw_val rfl rfl (x24) (ex_assign (.tmp 24) rfl e24) hS (Flz.refl _) ⟨x24, uS, hr24⟩
   intro f u5 hS hf hap
   have h0 := eqL (hf 0 (by decide)) rfl
   obtain ⟨v9_1, h1, hu1⟩ := hf 1 (by decide)
   have HU9_1 := Lib.hid hu1
   clear hu1
   obtain ⟨v9_2, h2, hu2⟩ := hf 2 (by decide)
   have HU9_2 := Lib.hid hu2
   clear hu2
   clear hf hap
   clear zsz z3
   subst ha0
   simp only [slotsCce9, putAll, h0, h1, h2, Act.put, List.setIfInBounds_toArray, List.set_cons_zero, List.set_cons_succ]
   clear h0 h1 h2
   refine tl_nil ?_
   replace HB := Lib.hid (HB.out.trans (hS.mono HB.out.size))
   clear hS
   have HOW := Lib.hid (HU9_2.out.less HWR.out)
   have HU5 : Hid (w.heap.size ≤ u5.heap.size) := Lib.hid HB.out.size
   clear HU9_2
   go_upto_region 10 with fail
   refine wp_act (fun a0 ha0 => ?_)
   have zsz : a0.tmps.size = 36 := by rw [ha0]; rfl
   have z0 : a0.eval (.tmp 0) = .slice (some ⟨k, 0, none⟩) 2 2 := by rw [ha0]; rfl
   refine wrO [] slotsCce10 waitCce10 [Fct.val Flz 0 (.slice (some ⟨k, 0, none⟩) 2 2), Fct.val Flz 1 (.int .i64 ((2 : Int))), Fct.val Flz 2 (.int .i64 0)] (fun w' => Below u5.heap.size u5 w') _ 3 0 chkCce10 (by kernel_rfl) (by kernel_rfl) (by kernel_rfl) (by decide) (Below.refl _ _) ?_ ?_
   ·refine lt_s (lt_s (lt_s (lt_0) ?_) ?_) ?_
    ·intro f w1 hS hf aA hA
     have r0 := qO 0 hA z0
     exact fV rfl rfl _ (ex_move (.tmp 0) rfl r0) hS uS
    ·intro f w1 hS hf aA hA
     have r25 := qA 25 0 hA sbCce10 zsz (hf 0 (by decide))
     exact fV rfl rfl _ (ex_len 113 23 (.tmp 25) rfl (by kernel_rfl) (some ⟨k, 0, none⟩) 2 2 r25) hS uS
    ·intro f w1 hS hf aA hA
     exact fV rfl rfl (.int .i64 0) (ex_move _ rfl rfl) hS uS
   intro f u6 hS hf hap
   have h0 := eqL (hf 0 (by decide)) rfl
   have h1 := eqL (hf 1 (by decide)) rfl
   have h2 := eqL (hf 2 (by decide)) rfl
   clear hf hap
   clear zsz z0
   subst ha0
   simp only [slotsCce10, putAll, h0, h1, h2, Act.put, List.setIfInBounds_toArray, List.set_cons_zero, List.set_cons_succ]
   clear h0 h1 h2
   refine tl_nil ?_
   replace HOW := Lib.hid (HOW.out.keep hS)
   replace HB := Lib.hid (HB.out.trans (hS.mono HB.out.size))
   clear hS
   have HU6 : Hid (w.heap.size ≤ u6.heap.size) := Lib.hid HB.out.size
   go_wp2_with fail
   go_loopw [6, 27] (fun vz vi wr => ((vi = .int .i64 0 ∧ ∃ z, z = vz ∧ RowS w.heap.size wr z []) ∨ (vi = .int .i64 1 ∧ ∃ z, z = vz ∧ RowS w.heap.size wr z P) ∨ (vi = .int .i64 2 ∧ ∃ z, z = vz ∧ RowS w.heap.size wr z (P ++ M))) ∧ Below w.heap.size w wr) (fun _ vi _ => 2 - (intOf vi).toNat)
   case atStart => exact ⟨.inl ⟨rfl, _, rfl, HOW.out⟩, HB.out⟩
   case round =>
    clear HB HOW
    rename_i wr
    obtain ⟨hc3, hB⟩ := hrel
    have HB := Lib.hid hB
    clear hB
    rcases hc3 with ⟨rfl, vz, rfl, ho⟩ | ⟨rfl, vz, rfl, ho⟩ | ⟨rfl, vz, rfl, ho⟩
    ·have HO := Lib.hid ho
     clear ho
     have HEL : Hid (∀ w' : World, (∀ k, k < wr.heap.size → w'.heap[k]? = wr.heap[k]?) → w'.cell? ((⟨k, 0, none⟩ : Addr).add (0 * 1)) = some vP) := Lib.hid (fun w' hw => by
      have h4 := HH.out.keepB HB.out
      have h5 : Has w' k 23 [vP, vM] := (hw k h4.lt).trans h4
      rw [add_lit', Nat.mul_one, Nat.zero_add]
      exact h5.cellv rfl)
     go_upto_region 12 with fail
     refine wp_act (fun a0 ha0 => ?_)
     have zsz : a0.tmps.size = 36 := by rw [ha0]; rfl
     have z25 : a0.eval (.tmp 25) = .slice (some ⟨k, 0, none⟩) 2 2 := by rw [ha0]; rfl
     have z27 : a0.eval (.tmp 27) = .int .i64 0 := by rw [ha0]; rfl
     refine wrO [] slotsCd012 waitCd012 [Fct.val Flz 0 (.pointer (some ((⟨k, 0, none⟩ : Addr).add (0 * 1)))), Fct.val Flz 1 (vP), Fct.val Flz 2 (vP)] (fun w' => Below wr.heap.size wr w') _ 3 0 chkCd012 (by kernel_rfl) (by kernel_rfl) (by kernel_rfl) (by decide) (Below.refl _ _) ?_ ?_
     ·refine lt_s (lt_s (lt_s (lt_0) ?_) ?_) ?_
      ·intro f w1 hS hf aA hA
       have r25 := qO 25 hA z25
       have r27 := qO 27 hA z27
       exact fV rfl rfl _ (ex_indexS 113 23 (.tmp 25) (.tmp 27) rfl (⟨k, 0, none⟩ : Addr) 2 2 0 1 (by kernel_rfl) (fun _ => by kernel_rfl) r25 r27 (by decide)) hS uS
      ·intro f w1 hS hf aA hA
       have r29 := qA 29 0 hA sbCd012 zsz (hf 0 (by decide))
       exact fV rfl rfl _ (ex_load1 23 (.tmp 29) rfl ((⟨k, 0, none⟩ : Addr).add (0 * 1)) r29 (fun _ => by kernel_rfl) (HEL.out w1 hS.block)) hS uS
      ·intro f w1 hS hf aA hA
       have r30 := qA 30 1 hA sbCd012 zsz (hf 1 (by decide))
       exact fV rfl rfl _ (ex_assign (.tmp 30) rfl r30) hS uS
     intro f u13 hS hf hap
     have h0 := eqL (hf 0 (by decide)) rfl
     have h1 := eqL (hf 1 (by decide)) rfl
     have h2 := eqL (hf 2 (by decide)) rfl
     clear hf hap
     clear zsz z25 z27
     subst ha0
     simp only [slotsCd012, putAll, h0, h1, h2, Act.put, List.setIfInBounds_toArray, List.set_cons_zero, List.set_cons_succ]
     clear h0 h1 h2
     refine tl_nil ?_
     replace HO := Lib.hid (HO.out.keep hS)
     replace HB := Lib.hid (HB.out.trans (hS.mono HB.out.size))
     clear hS
     go_upto_region 13 with fail
     refine wp_region_lit ?_
     try simp only [Act.put, List.setIfInBounds_toArray, List.set_cons_zero, List.set_cons_succ]
     refine lp_pure (v := vz) rfl (ex_move (.tmp 6) rfl rfl) ?_
     try simp only [Act.put, List.setIfInBounds_toArray, List.set_cons_zero, List.set_cons_succ]
     refine lp_pure (v := vP) rfl (ex_move (.tmp 8) rfl rfl) ?_
     try simp only [Act.put, List.setIfInBounds_toArray, List.set_cons_zero, List.set_cons_succ]
     obtain ⟨q9, c9, hv9, _, hq9, hl9⟩ := HP.out.keep HB.out
     refine lp_step rfl (fun K hK => wp_append_su 23 42 elSum (.tmp 31) (.tmp 32) rfl w.heap.size vz _ rfl HO.out q9 P P.length c9 u13.heap.size rfl (Eq.trans rfl hv9) hq9 hl9 (by have := HN.out; simp; omega) HB.out.size (fun vn w8 h1 h2 => hK _ _ ?_))
     have HO8 : Hid (RowS w.heap.size w8 vn (P)) := Lib.hid (by unfold RowS; simpa using h1)
     have HB8 := Lib.hid (HB.out.grown h2 HB.out.size (fun k hk => HO.out.base k hk))
     clear h1 h2 HO HB hv9 hq9 hl9
     try simp only [Act.put, List.setIfInBounds_toArray, List.set_cons_zero, List.set_cons_succ]
     refine lp_pure (v := vn) rfl (ex_assign (.tmp 33) rfl rfl) ?_
     try simp only [Act.put, List.setIfInBounds_toArray, List.set_cons_zero, List.set_cons_succ]
     refine wpList_nil ?_
     go_wp2_with fail
     go_roundw
     case rel => exact ⟨.inr (.inl ⟨by first | rfl | decide | go_num, _, rfl, HO8.out⟩), HB8.out⟩
     case measure => first | decide | (simp [intOf]; try omega)
    ·have HO := Lib.hid ho
     clear ho
     have HEL : Hid (∀ w' : World, (∀ k, k < wr.heap.size → w'.heap[k]? = wr.heap[k]?) → w'.cell? ((⟨k, 0, none⟩ : Addr).add (1 * 1)) = some vM) := Lib.hid (fun w' hw => by
      have h4 := HH.out.keepB HB.out
      have h5 : Has w' k 23 [vP, vM] := (hw k h4.lt).trans h4
      rw [add_lit', Nat.mul_one, Nat.zero_add]
      exact h5.cellv rfl)
     go_upto_region 12 with fail
     refine wp_act (fun a0 ha0 => ?_)
     have zsz : a0.tmps.size = 36 := by rw [ha0]; rfl
     have z25 : a0.eval (.tmp 25) = .slice (some ⟨k, 0, none⟩) 2 2 := by rw [ha0]; rfl
     have z27 : a0.eval (.tmp 27) = .int .i64 1 := by rw [ha0]; rfl
     refine wrO [] slotsCd012 waitCd012 [Fct.val Flz 0 (.pointer (some ((⟨k, 0, none⟩ : Addr).add (1 * 1)))), Fct.val Flz 1 (vM), Fct.val Flz 2 (vM)] (fun w' => Below wr.heap.size wr w') _ 3 0 chkCd012 (by kernel_rfl) (by kernel_rfl) (by kernel_rfl) (by decide) (Below.refl _ _) ?_ ?_
     ·refine lt_s (lt_s (lt_s (lt_0) ?_) ?_) ?_
      ·intro f w1 hS hf aA hA
       have r25 := qO 25 hA z25
       have r27 := qO 27 hA z27
       exact fV rfl rfl _ (ex_indexS 113 23 (.tmp 25) (.tmp 27) rfl (⟨k, 0, none⟩ : Addr) 2 2 1 1 (by kernel_rfl) (fun _ => by kernel_rfl) r25 r27 (by decide)) hS uS
      ·intro f w1 hS hf aA hA
       have r29 := qA 29 0 hA sbCd012 zsz (hf 0 (by decide))
       exact fV rfl rfl _ (ex_load1 23 (.tmp 29) rfl ((⟨k, 0, none⟩ : Addr).add (1 * 1)) r29 (fun _ => by kernel_rfl) (HEL.out w1 hS.block)) hS uS
      ·intro f w1 hS hf aA hA
       have r30 := qA 30 1 hA sbCd012 zsz (hf 1 (by decide))
       exact fV rfl rfl _ (ex_assign (.tmp 30) rfl r30) hS uS
     intro f u13 hS hf hap
     have h0 := eqL (hf 0 (by decide)) rfl
     have h1 := eqL (hf 1 (by decide)) rfl
     have h2 := eqL (hf 2 (by decide)) rfl
     clear hf hap
     clear zsz z25 z27
     subst ha0
     simp only [slotsCd012, putAll, h0, h1, h2, Act.put, List.setIfInBounds_toArray, List.set_cons_zero, List.set_cons_succ]
     clear h0 h1 h2
     refine tl_nil ?_
     replace HO := Lib.hid (HO.out.keep hS)
     replace HB := Lib.hid (HB.out.trans (hS.mono HB.out.size))
     clear hS
     go_upto_region 13 with fail
     refine wp_region_lit ?_
     try simp only [Act.put, List.setIfInBounds_toArray, List.set_cons_zero, List.set_cons_succ]
     refine lp_pure (v := vz) rfl (ex_move (.tmp 6) rfl rfl) ?_
     try simp only [Act.put, List.setIfInBounds_toArray, List.set_cons_zero, List.set_cons_succ]
     refine lp_pure (v := vM) rfl (ex_move (.tmp 8) rfl rfl) ?_
     try simp only [Act.put, List.setIfInBounds_toArray, List.set_cons_zero, List.set_cons_succ]
     obtain ⟨q9, c9, hv9, _, hq9, hl9⟩ := HM.out.keep HB.out
     refine lp_step rfl (fun K hK => wp_append_su 23 42 elSum (.tmp 31) (.tmp 32) rfl w.heap.size vz _ rfl HO.out q9 M M.length c9 u13.heap.size rfl (Eq.trans rfl hv9) hq9 hl9 (by have := HN.out; simp; omega) HB.out.size (fun vn w8 h1 h2 => hK _ _ ?_))
     have HO8 : Hid (RowS w.heap.size w8 vn (P ++ M)) := Lib.hid (by unfold RowS; simpa using h1)
     have HB8 := Lib.hid (HB.out.grown h2 HB.out.size (fun k hk => HO.out.base k hk))
     clear h1 h2 HO HB hv9 hq9 hl9
     try simp only [Act.put, List.setIfInBounds_toArray, List.set_cons_zero, List.set_cons_succ]
     refine lp_pure (v := vn) rfl (ex_assign (.tmp 33) rfl rfl) ?_
     try simp only [Act.put, List.setIfInBounds_toArray, List.set_cons_zero, List.set_cons_succ]
     refine wpList_nil ?_
     go_wp2_with fail
     go_roundw
     case rel => exact ⟨.inr (.inr ⟨by first | rfl | decide | go_num, _, rfl, HO8.out⟩), HB8.out⟩
     case measure => first | decide | (simp [intOf]; try omega)
    ·have HUS := Lib.hid (OwnU.us ho)
     go_wp2_with fail
     go_ret
     exact ⟨⟨_, rfl, HUS.out⟩, HB.out⟩
def waitPtw0 (i : Nat) : List Nat := ([[]] : List (List Nat)).getD i []
def slotsPtw0 : List (Nat × Nat) := [(2, 0)]
theorem chkPtw0 : flwO slotsPtw0 waitPtw0 1 (regOf Tryd.f29.body 0) = true := by kernel_rfl
def waitPtw1 (i : Nat) : List Nat := ([[], [0], [1], [2], [], [4], [5], [6], [3, 7], [8], [9]] : List (List Nat)).getD i []
def slotsPtw1 : List (Nat × Nat) := [(4, 0), (5, 1), (6, 2), (7, 3), (8, 4), (9, 5), (10, 6), (11, 7), (12, 8), (13, 9), (3, 10)]
theorem sbPtw1 : slotsB slotsPtw1 = true := by kernel_rfl
theorem chkPtw1 : flwB slotsPtw1 waitPtw1 11 (regOf Tryd.f29.body 1) = true := by kernel_rfl
def waitPtw2 (i : Nat) : List Nat := ([[], [0], [1], [], [3], [2, 4], [5]] : List (List Nat)).getD i []
def slotsPtw2 : List (Nat × Nat) := [(14, 0), (15, 1), (16, 2), (17, 3), (18, 4), (19, 5), (2, 6)]
theorem sbPtw2 : slotsB slotsPtw2 = true := by kernel_rfl
theorem chkPtw2 : flwO slotsPtw2 waitPtw2 7 (regOf Tryd.f29.body 2) = true := by kernel_rfl
set_option maxHeartbeats 8000000 in
set_option maxRecDepth 100000 in
theorem twiceP_b (b g s : Nat) (L : List Ce) (A : List Bool) (P M : List Su) (vL vA vP vM : Value) (w w0 : World) (hB : Below w.heap.size w w0) (hP : PeS b w g s L A P M vL vA vP vM) (hn : P.length + M.length ≤ 10000) : Calls Tryd.prog 29 #[.pointer (some ⟨g, 0, none⟩)] w0 fun e w' => (∃ v, e = .returned v ∧ v = .bool (decide ((srt (P ++ M)).length < (P ++ M).length))) ∧ Below w.heap.size w w' := by
 go_enter Tryd.func29, Tryd.ntmps29
 have HB := Lib.hid hB
 clear hB
 have HN := Lib.hid hn
 have HP := Lib.hid (hP.keep HB.out)
 clear hP hn
 go_upto_region 0 with fail
 refine wp_act (fun a0 ha0 => ?_)
 have zsz : a0.tmps.size = 20 := by rw [ha0]; rfl
 refine wrO [] slotsPtw0 waitPtw0 [Fct.val Flz 0 (.bool false)] (fun w' => Below w0.heap.size w0 w') _ 1 0 chkPtw0 (by kernel_rfl) (by kernel_rfl) (by kernel_rfl) (by decide) (Below.refl _ _) ?_ ?_
 ·refine lt_s (lt_0) ?_
  ·intro f w1 hS hf aA hA
   exact fV rfl rfl (.bool false) (ex_assign _ rfl rfl) hS uS
 intro f u0 hS hf hap
 have h0 := eqL (hf 0 (by decide)) rfl
 clear hf hap
 clear zsz
 subst ha0
 simp only [slotsPtw0, putAll, h0, Act.put, List.setIfInBounds_toArray, List.set_cons_zero, List.set_cons_succ]
 clear h0
 refine tl_nil ?_
 replace HP := Lib.hid (HP.out.keep hS)
 replace HB := Lib.hid (HB.out.trans (hS.mono HB.out.size))
 clear hS
 go_upto_region 1 with fail
 have HST : Hid (Below u0.heap.size u0 u0.drew) := Lib.hid (Below.refl _ _).drew
 replace HP := Lib.hid (HP.out.keep HST.out)
 replace HB := Lib.hid (HB.out.trans (HST.out.mono HB.out.size))
 clear HST
 refine wp_act (fun a0 ha0 => ?_)
 have zsz : a0.tmps.size = 20 := by rw [ha0]; rfl
 have z0 : a0.eval (.tmp 0) = .pointer (some ⟨g, 0, none⟩) := by rw [ha0]; rfl
 refine wrD [] slotsPtw1 waitPtw1 [Fct.val Flz 0 (.pointer (some ⟨g, 0, none⟩)), Fct.val Flz 1 (.pointer (some ⟨g, 0, none⟩)), Fct.val Flz 2 (.pointer (some ⟨g, 3, none⟩)), Fct.val Flz 3 (vP), Fct.val Flz 4 (.pointer (some ⟨g, 0, none⟩)), Fct.val Flz 5 (.pointer (some ⟨g, 0, none⟩)), Fct.val Flz 6 (.pointer (some ⟨g, 4, none⟩)), Fct.val Flz 7 (vM), Fct.obj 8 (fun v w => ∃ zz, v = .slice (some ⟨zz, 0, none⟩) 2 2 ∧ u0.drew.heap.size ≤ zz ∧ Has w zz 23 [vP, vM]) (fun _ _ _ ⟨zz, a, b⟩ he => ⟨zz, a, ⟨b.1, b.2.flz he (by decide)⟩⟩), Fct.obj 9 (fun v w => Us w v (P ++ M)) (fun _ _ _ h he => h.flz he), (⟨([10, 9], fun f _ => f 10 = f 9), fun f f' _ _ h _ hd => (show f' 10 = f' 9 by rw [hd 10 (by simp), hd 9 (by simp)]; exact h)⟩ : Fct Flz)] (fun w' => Below u0.drew.heap.size u0.drew w') _ 11 0 chkPtw1 (by kernel_rfl) (by kernel_rfl) (by kernel_rfl) (by kernel_rfl) (by decide) (Below.refl _ _) ?_ ?_
 ·refine lt_s (lt_s (lt_s (lt_s (lt_s (lt_s (lt_s (lt_s (lt_s (lt_s (lt_s (lt_0) ?_) ?_) ?_) ?_) ?_) ?_) ?_) ?_) ?_) ?_) ?_
  ·intro f w1 hS hf aA hA
   have r0 := qO 0 hA z0
   exact fV rfl rfl _ (ex_move (.tmp 0) rfl r0) hS uS
  ·intro f w1 hS hf aA hA
   have r4 := qA 4 0 hA sbPtw1 zsz (hf 0 (by decide))
   exact fV rfl rfl _ (ex_nil (.tmp 4) rfl g 0 r4) hS uS
  ·intro f w1 hS hf aA hA
   have r5 := qA 5 1 hA sbPtw1 zsz (hf 1 (by decide))
   exact fV rfl rfl _ (fldP2 (.tmp 5) rfl g r5) hS uS
  ·intro f w1 hS hf aA hA
   have r6 := qA 6 2 hA sbPtw1 zsz (hf 2 (by decide))
   exact fV rfl rfl _ (ex_load1 23 (.tmp 6) rfl ⟨g, 3, none⟩ r6 (fun _ => by kernel_rfl) ((HP.out.box.keepB hS).cellv rfl)) hS uS
  ·intro f w1 hS hf aA hA
   have r0 := qO 0 hA z0
   exact fV rfl rfl _ (ex_move (.tmp 0) rfl r0) hS uS
  ·intro f w1 hS hf aA hA
   have r8 := qA 8 4 hA sbPtw1 zsz (hf 4 (by decide))
   exact fV rfl rfl _ (ex_nil (.tmp 8) rfl g 0 r8) hS uS
  ·intro f w1 hS hf aA hA
   have r9 := qA 9 5 hA sbPtw1 zsz (hf 5 (by decide))
   exact fV rfl rfl _ (fldP3 (.tmp 9) rfl g r9) hS uS
  ·intro f w1 hS hf aA hA
   have r10 := qA 10 6 hA sbPtw1 zsz (hf 6 (by decide))
   exact fV rfl rfl _ (ex_load1 23 (.tmp 10) rfl ⟨g, 4, none⟩ r10 (fun _ => by kernel_rfl) ((HP.out.box.keepB hS).cellv rfl)) hS uS
  ·intro f w1 hS hf aA hA
   have r7 := qA 7 3 hA sbPtw1 zsz (hf 3 (by decide))
   have r11 := qA 11 7 hA sbPtw1 zsz (hf 7 (by decide))
   exact flw_wp rfl rfl (fun K hK => wp_two_ss (.tmp 7) (.tmp 11) rfl vP vM r7 r11 ((HP.out.plus.keep hS).cs_sl) ((HP.out.minus.keep hS).cs_sl) (hK _ _ (hS.alloc hS.size _) (Flz.al _ _) ⟨_, uS, hS.size, Has.made' _ _ _ _ rfl⟩))
  ·intro f w1 hS hf aA hA
   obtain ⟨x12, hx12, hr12⟩ := hf 8 (by decide)
   have e12 := pA 12 8 hA sbPtw1 (by kernel_rfl) zsz rfl hx12
   exact flw_call rfl rfl 55 #[(.tmp 12)] _ rfl #[.slice (some ⟨x12, 0, none⟩) 2 2] (mp1 e12) (fun w => by kernel_rfl) (fun v w' => Us w' v (P ++ M)) (concat2_any x12 vP vM P M w1 hr12.2 (OwnU.us (HP.out.plus.keep hS)) (OwnU.us (HP.out.minus.keep hS)) (by have := HN.out; omega)) (fun v w' hr hb => ⟨hS.trans (hb.mono hS.size), Flz.of hb, (show Us w' (updF f 9 v 9) (P ++ M) by rw [updF_self]; exact hr)⟩)
  ·intro f w1 hS hf aA hA
   have hu9 : Us w1 (f 9) (P ++ M) := (hf 9 (by decide))
   have e13 := pA 13 9 hA sbPtw1 (by kernel_rfl) zsz rfl rfl
   exact flw_val rfl rfl (f 9) (ex_assign (.tmp 13) rfl e13) hS (Flz.refl _) (show updF f 10 (f 9) 10 = updF f 10 (f 9) 9 by rw [updF_self, updF_ne f _ (by decide)])
 intro f u1 hS hf hap
 have h0 := eqL (hf 0 (by decide)) rfl
 have h1 := eqL (hf 1 (by decide)) rfl
 have h2 := eqL (hf 2 (by decide)) rfl
 have h3 := eqL (hf 3 (by decide)) rfl
 have h4 := eqL (hf 4 (by decide)) rfl
 have h5 := eqL (hf 5 (by decide)) rfl
 have h6 := eqL (hf 6 (by decide)) rfl
 have h7 := eqL (hf 7 (by decide)) rfl
 obtain ⟨v1_8, h8, hu8⟩ := hf 8 (by decide)
 have HU1_8 := Lib.hid hu8
 clear hu8
 obtain ⟨v1_9, h9, hu9⟩ : ∃ v, f 9 = v ∧ Us u1 v (P ++ M) := ⟨_, rfl, (hf 9 (by decide))⟩
 have HU1_9 := Lib.hid hu9
 clear hu9
 have h10 : f 10 = v1_9 := Eq.trans (hf 10 (by decide)) h9
 clear hf hap
 clear zsz z0
 subst ha0
 simp only [slotsPtw1, putAll, h0, h1, h2, h3, h4, h5, h6, h7, h8, h9, h10, Act.put, List.setIfInBounds_toArray, List.set_cons_zero, List.set_cons_succ]
 clear h0 h1 h2 h3 h4 h5 h6 h7 h8 h9 h10
 refine tl_nilN ?_
 replace HP := Lib.hid (HP.out.keep hS)
 replace HB := Lib.hid (HB.out.trans (hS.mono HB.out.size))
 clear hS
 go_upto_region 2 with fail
 refine wp_act (fun a0 ha0 => ?_)
 have zsz : a0.tmps.size = 20 := by rw [ha0]; rfl
 have z3 : a0.eval (.tmp 3) = v1_9 := by rw [ha0]; rfl
 refine wrO [] slotsPtw2 waitPtw2 [Fct.val Flz 0 (v1_9), Fct.obj 1 (fun v w => Us w v (srt (P ++ M))) (fun _ _ _ h he => h.flz he), Fct.val Flz 2 (.int .i64 (((srt (P ++ M)).length : Int))), Fct.val Flz 3 (v1_9), Fct.val Flz 4 (.int .i64 (((P ++ M).length : Int))), Fct.val Flz 5 (.bool (decide ((((srt (P ++ M)).length : Int)) < (((P ++ M).length : Int))))), Fct.val Flz 6 (.bool (decide ((((srt (P ++ M)).length : Int)) < (((P ++ M).length : Int)))))] (fun w' => Below u1.heap.size u1 w') _ 7 0 chkPtw2 (by kernel_rfl) (by kernel_rfl) (by kernel_rfl) (by decide) (Below.refl _ _) ?_ ?_
 ·refine lt_s (lt_s (lt_s (lt_s (lt_s (lt_s (lt_s (lt_0) ?_) ?_) ?_) ?_) ?_) ?_) ?_
  ·intro f w1 hS hf aA hA
   have r3 := qO 3 hA z3
   exact fV rfl rfl _ (ex_move (.tmp 3) rfl r3) hS uS
  ·intro f w1 hS hf aA hA
   have r14 := qA 14 0 hA sbPtw2 zsz (hf 0 (by decide))
   exact flw_call rfl rfl 30 #[(.tmp 14)] _ rfl #[v1_9] (mp1 r14) (fun w => by kernel_rfl) (fun v w' => Us w' v (srt (P ++ M))) (us_of (HU1_9.out.keep hS) (by have := HN.out; rw [List.length_append]; exact this)) (fun v w' hr hb => ⟨hS.trans (hb.mono hS.size), Flz.of hb, (show Us w' (updF f 1 v 1) (srt (P ++ M)) by rw [updF_self]; exact hr)⟩)
  ·intro f w1 hS hf aA hA
   have hu1 : Us w1 (f 1) (srt (P ++ M)) := (hf 1 (by decide))
   have e15 := pA 15 1 hA sbPtw2 (by kernel_rfl) zsz rfl rfl
   obtain ⟨q9, c9, hv9, _⟩ := hu1
   exact fV rfl rfl _ (ex_len 24 42 (.tmp 15) rfl (by kernel_rfl) q9 (srt (P ++ M)).length c9 (e15.trans hv9)) hS uS
  ·intro f w1 hS hf aA hA
   have r3 := qO 3 hA z3
   exact fV rfl rfl _ (ex_move (.tmp 3) rfl r3) hS uS
  ·intro f w1 hS hf aA hA
   have r17 := qA 17 3 hA sbPtw2 zsz (hf 3 (by decide))
   obtain ⟨q9, c9, hv9, _⟩ := (HU1_9.out.keep hS)
   exact fV rfl rfl _ (ex_len 23 42 (.tmp 17) rfl (by kernel_rfl) q9 (P ++ M).length c9 (r17.trans hv9)) hS uS
  ·intro f w1 hS hf aA hA
   have r16 := qA 16 2 hA sbPtw2 zsz (hf 2 (by decide))
   have r18 := qA 18 4 hA sbPtw2 zsz (hf 4 (by decide))
   exact fV rfl rfl _ (ex_int .lss _ _ (.tmp 16) (.tmp 18) rfl .i64 (((srt (P ++ M)).length : Int)) (((P ++ M).length : Int)) r16 r18 (.bool (decide ((((srt (P ++ M)).length : Int)) < (((P ++ M).length : Int))))) (fun _ => rfl)) hS uS
  ·intro f w1 hS hf aA hA
   have r19 := qA 19 5 hA sbPtw2 zsz (hf 5 (by decide))
   exact fV rfl rfl _ (ex_assign (.tmp 19) rfl r19) hS uS
 intro f u2 hS hf hap
 have h0 := eqL (hf 0 (by decide)) rfl
 obtain ⟨v2_1, h1, hu1⟩ : ∃ v, f 1 = v ∧ Us u2 v (srt (P ++ M)) := ⟨_, rfl, (hf 1 (by decide))⟩
 have HU2_1 := Lib.hid hu1
 clear hu1
 have h2 := eqL (hf 2 (by decide)) rfl
 have h3 := eqL (hf 3 (by decide)) rfl
 have h4 := eqL (hf 4 (by decide)) rfl
 have h5 := eqL (hf 5 (by decide)) rfl
 have h6 := eqL (hf 6 (by decide)) rfl
 clear hf hap
 clear zsz z3
 subst ha0
 simp only [slotsPtw2, putAll, h0, h1, h2, h3, h4, h5, h6, Act.put, List.setIfInBounds_toArray, List.set_cons_zero, List.set_cons_succ]
 clear h0 h1 h2 h3 h4 h5 h6
 refine tl_nil ?_
 replace HP := Lib.hid (HP.out.keep hS)
 replace HU1_9 := Lib.hid (HU1_9.out.keep hS)
 replace HB := Lib.hid (HB.out.trans (hS.mono HB.out.size))
 clear hS
 have HDD : Hid (decide ((((srt (P ++ M)).length : Nat) : Int) < (((P ++ M).length : Nat) : Int)) = decide ((srt (P ++ M)).length < (P ++ M).length)) := Lib.hid (by congr 1; exact propext Int.ofNat_lt)
 go_wp2_with fail
 go_ret
 exact ⟨⟨_, rfl, congrArg Value.bool HDD.out⟩, HB.out⟩
theorem twiceP_any (b g s : Nat) (L : List Ce) (A : List Bool) (P M : List Su) (vL vA vP vM : Value) (w : World) (hP : PeS b w g s L A P M vL vA vP vM) (hn : P.length + M.length ≤ 10000) : Calls Tryd.prog 29 #[.pointer (some ⟨g, 0, none⟩)] w fun e w' => (∃ v, e = .returned v ∧ v = .bool (decide ((srt (P ++ M)).length < (P ++ M).length))) ∧ Below w.heap.size w w' := twiceP_b b g s L A P M vL vA vP vM w w (Below.refl _ _) hP hn
end Go.Proofs.YtnkcehmgagpadaaDoor
