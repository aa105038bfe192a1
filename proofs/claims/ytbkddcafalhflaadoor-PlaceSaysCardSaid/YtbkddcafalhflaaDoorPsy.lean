/- The law PlaceSays: it answers true. Conditions: the sums' tables and the table of trailing noughts are laid; a seed of 64 bits. -/
import Derived.Test.YtbkddcafalhflaaDoorPlg
namespace Go.Proofs.YtbkddcafalhflaaDoor
open Go.RowKit
def waitPsy1 (i : Nat) : List Nat := ([[], [0]] : List (List Nat)).getD i []
def slotsPsy1 : List (Nat × Nat) := [(10, 0), (11, 1)]
theorem sbPsy1 : slotsB slotsPsy1 = true := by kernel_rfl
theorem chkPsy1 : flwO slotsPsy1 waitPsy1 2 (regOf Tryd.f4.body 1) = true := by kernel_rfl
def waitPsy3 (i : Nat) : List Nat := ([[], [], [], [0, 1, 2], [3]] : List (List Nat)).getD i []
def slotsPsy3 : List (Nat × Nat) := [(12, 0), (13, 1), (14, 2), (15, 3), (7, 4)]
theorem sbPsy3 : slotsB slotsPsy3 = true := by kernel_rfl
theorem chkPsy3 : flwO slotsPsy3 waitPsy3 5 (regOf Tryd.f4.body 3) = true := by kernel_rfl
def waitPsy4 (i : Nat) : List Nat := ([[], [0], [1]] : List (List Nat)).getD i []
def slotsPsy4 : List (Nat × Nat) := [(16, 0), (17, 1), (8, 2)]
theorem sbPsy4 : slotsB slotsPsy4 = true := by kernel_rfl
theorem chkPsy4 : flwO slotsPsy4 waitPsy4 3 (regOf Tryd.f4.body 4) = true := by kernel_rfl
def waitPsy5 (i : Nat) : List Nat := ([[], [0], [], [2], [1, 3], [4], [5], [5], [5], [5], [5, 7, 8, 9], [5, 6, 10], [5, 11], [5, 12], [13], [14], [14], [14, 16], [14, 15, 17], [14, 18], [19], [20], [20, 21], [20, 22], [23], [24], [24, 25], [24, 26]] : List (List Nat)).getD i []
def slotsPsy5 : List (Nat × Nat) := [(18, 0), (19, 1), (20, 2), (21, 3), (22, 4), (23, 5), (24, 6), (25, 7), (26, 8), (27, 9), (28, 10), (29, 11), (30, 12), (31, 13), (32, 14), (33, 15), (34, 16), (35, 17), (36, 18), (37, 19), (38, 20), (39, 21), (40, 22), (41, 23), (42, 24), (43, 25), (44, 26), (45, 27)]
theorem sbPsy5 : slotsB slotsPsy5 = true := by kernel_rfl
theorem chkPsy5 : flwO slotsPsy5 waitPsy5 28 (regOf Tryd.f4.body 5) = true := by kernel_rfl
set_option maxHeartbeats 16000000 in
set_option maxRecDepth 100000 in
theorem placeSays_b (s : Nat) (hs : s < 18446744073709551616) (n : Int) (hn : -9223372036854775808 ≤ n ∧ n ≤ 9223372036854775807) (x : Su) (w w0 : World) (hB : Below w.heap.size w w0) (hL : Laid w) (hD : DeB w) : Calls Tryd.prog 4 #[.int .u64 (s : Nat), .int .i64 n, .agg (encU x).toArray] w0 fun e w' => e = .returned (.bool true) ∧ Below w.heap.size w w' := by
  have HL := Lib.hid hL
  have HSZ := Lib.hid hL.size
  have HSD := Lib.hid hs
  have HN := Lib.hid hn
  have HD : Hid (∀ w', Below w.heap.size w w' → DeB w') := Lib.hid (fun _ hb => hD.keep hb hD.1)
  have HB := Lib.hid hB
  clear hL hs hD hB hn
  go_enter Tryd.func4, Tryd.ntmps4
  go_upto_region 0 with fail
  refine wp_region_lit ?_
  try simp only [Act.put, List.setIfInBounds_toArray, List.set_cons_zero, List.set_cons_succ]
  refine lp_step rfl (fun K hK => wp_box_row 27 (.tmp 2) rfl (.agg (encU x).toArray) rfl (hK _ _ ?_))
  try simp only [Act.put, List.setIfInBounds_toArray, List.set_cons_zero, List.set_cons_succ]
  show wpList _ _ _ _ _ (w0.alloc (.cells (encU x).toArray 27))
  have HST : Hid (Below w0.heap.size w0 (w0.alloc (.cells (encU x).toArray 27))) := Lib.hid ((Below.refl _ _).alloc (Nat.le_refl _) _)
  have HX1 : Hid (Has (w0.alloc (.cells (encU x).toArray 27)) w0.heap.size 27 (encU x)) := Lib.hid (Has.made' _ _ _ _ rfl)
  have HGg1 : Hid (w.heap.size ≤ w0.heap.size) := Lib.hid HB.out.size
  replace HB := Lib.hid (HB.out.trans (HST.out.mono HB.out.size))
  clear HST
  generalize w0.alloc (.cells (encU x).toArray 27) = w1 at *
  generalize w0.heap.size = g1 at *
  refine lp_pure rfl (ex_assign _ rfl rfl) ?_
  try simp only [Act.put, List.setIfInBounds_toArray, List.set_cons_zero, List.set_cons_succ]
  refine wpList_nil ?_
  go_upto_region 1 with fail
  refine wp_act (fun a0 ha0 => ?_)
  have zsz : a0.tmps.size = 73 := by rw [ha0]; rfl
  refine wp_region_flwo (E := Flz) [] slotsPsy1 waitPsy1 [Fct.val Flz 0 (.bool true), Fct.val Flz 1 (.bool false)] (fun w' => Below w1.heap.size w1 w') _ 2 0 chkPsy1 (by kernel_rfl) (by kernel_rfl) (by kernel_rfl) (by decide) (Below.refl _ _) ?_ ?_
  · refine lt_s (lt_s (lt_0) ?_) ?_
    · intro f w1 hS hf
      generalize hA : putAll _ _ f = aA
      exact flw_call rfl rfl 6 #[] _ rfl #[] (by kernel_rfl) (fun w => by kernel_rfl) (fun v _ => v = .bool true) (awake14_any w1 (HL.out.keep (HB.out.trans (hS.mono HB.out.size)) HSZ.out)) (fun v w' hr hb => ⟨hS.trans (hb.mono hS.size), Flz.of hb, (updF_self _ _ _).trans hr⟩)
    · intro f w1 hS hf
      generalize hA : putAll _ _ f = aA
      have h10 : f 0 = .bool true := hf 0 (by decide)
      have r10 : aA.eval (.tmp 10) = .bool true := by rw [← hA]; exact putAll_at f 10 0 slotsPsy1 a0 sbPsy1 (by kernel_rfl) zsz rfl h10
      exact flw_val rfl rfl (.bool false) (ex_not _ (.tmp 10) rfl r10) hS (Flz.refl _) (updF_self _ _ _)
  intro f u1 hS hf hap
  have h0 : f 0 = .bool true := hf 0 (by decide)
  have h1 : f 1 = .bool false := hf 1 (by decide)
  clear hf hap
  clear zsz
  subst ha0
  simp only [slotsPsy1, putAll, h0, h1, Act.put, List.setIfInBounds_toArray, List.set_cons_zero, List.set_cons_succ]
  clear h0 h1
  refine tl_nil ?_
  replace HX1 := Lib.hid (HX1.out.keepB hS)
  replace HB := Lib.hid (HB.out.trans (hS.mono HB.out.size))
  clear hS
  go_upto_region 3 with fail
  refine wp_act (fun a0 ha0 => ?_)
  have zsz : a0.tmps.size = 73 := by rw [ha0]; rfl
  have z0 : a0.eval (.tmp 0) = .int .u64 ((s : Int)) := by rw [ha0]; rfl
  have z1 : a0.eval (.tmp 1) = .int .i64 n := by rw [ha0]; rfl
  have z5 : a0.eval (.tmp 5) = .pointer (some ⟨g1, 0, none⟩) := by rw [ha0]; rfl
  refine wp_region_flwo (E := Flz) [] slotsPsy3 waitPsy3 [Fct.val Flz 0 (.int .u64 ((s : Int))), Fct.val Flz 1 (.int .i64 n), Fct.val Flz 2 (.agg (encU x).toArray), Fct.obj 3 (fun v w => Ins w v (places s n x)) (fun _ _ _ h he => h.flzE he), (⟨([4, 3], fun f _ => f 4 = f 3), fun f f' _ _ h _ hd => (show f' 4 = f' 3 by rw [hd 4 (by simp), hd 3 (by simp)]; exact h)⟩ : Fct Flz)] (fun w' => Below u1.heap.size u1 w') _ 5 0 chkPsy3 (by kernel_rfl) (by kernel_rfl) (by kernel_rfl) (by decide) (Below.refl _ _) ?_ ?_
  · refine lt_s (lt_s (lt_s (lt_s (lt_s (lt_0) ?_) ?_) ?_) ?_) ?_
    · intro f w1 hS hf
      generalize hA : putAll _ _ f = aA
      have r0 : aA.eval (.tmp 0) = .int .u64 ((s : Int)) := by rw [← hA]; exact putAll_off f 0 slotsPsy3 a0 (by kernel_rfl) z0
      exact flw_val rfl rfl (.int .u64 ((s : Int))) (ex_move (.tmp 0) rfl r0) hS (Flz.refl _) (updF_self _ _ _)
    · intro f w1 hS hf
      generalize hA : putAll _ _ f = aA
      have r1 : aA.eval (.tmp 1) = .int .i64 n := by rw [← hA]; exact putAll_off f 1 slotsPsy3 a0 (by kernel_rfl) z1
      exact flw_val rfl rfl (.int .i64 n) (ex_move (.tmp 1) rfl r1) hS (Flz.refl _) (updF_self _ _ _)
    · intro f w1 hS hf
      generalize hA : putAll _ _ f = aA
      have r5 : aA.eval (.tmp 5) = .pointer (some ⟨g1, 0, none⟩) := by rw [← hA]; exact putAll_off f 5 slotsPsy3 a0 (by kernel_rfl) z5
      exact flw_val rfl rfl (.agg (encU x).toArray) (ex_loadR 27 (.tmp 5) rfl ⟨g1, 0, none⟩ r5 (fun _ => by kernel_rfl) (encU x) (by rw [encU_len]; kernel_rfl) ((HX1.out.keepB hS).part (encU x) 0 (encU_all' x))) hS (Flz.refl _) (updF_self _ _ _)
    · intro f w1 hS hf
      generalize hA : putAll _ _ f = aA
      have h12 : f 0 = .int .u64 ((s : Int)) := hf 0 (by decide)
      have r12 : aA.eval (.tmp 12) = .int .u64 ((s : Int)) := by rw [← hA]; exact putAll_at f 12 0 slotsPsy3 a0 sbPsy3 (by kernel_rfl) zsz rfl h12
      have h13 : f 1 = .int .i64 n := hf 1 (by decide)
      have r13 : aA.eval (.tmp 13) = .int .i64 n := by rw [← hA]; exact putAll_at f 13 1 slotsPsy3 a0 sbPsy3 (by kernel_rfl) zsz rfl h13
      have h14 : f 2 = .agg (encU x).toArray := hf 2 (by decide)
      have r14 : aA.eval (.tmp 14) = .agg (encU x).toArray := by rw [← hA]; exact putAll_at f 14 2 slotsPsy3 a0 sbPsy3 (by kernel_rfl) zsz rfl h14
      exact flw_call rfl rfl 8 #[(.tmp 12), (.tmp 13), (.tmp 14)] _ rfl #[.int .u64 ((s : Int)), .int .i64 n, .agg (encU x).toArray] (by simp only [List.map_toArray, List.map_cons, List.map_nil, r12, r13, r14]) (fun w => by kernel_rfl) (fun v w' => Ins w' v (places s n x)) (placeOf_any s HSD.out n x w1 (HL.out.keep (HB.out.trans (hS.mono HB.out.size)) HSZ.out)) (fun v w' hr hb => ⟨hS.trans (hb.mono hS.size), Flz.of hb, (show Ins w' (updF f 3 v 3) (places s n x) by rw [updF_self]; exact hr)⟩)
    · intro f w1 hS hf
      generalize hA : putAll _ _ f = aA
      have hu3 : Ins w1 (f 3) (places s n x) := (hf 3 (by decide))
      have e15 : aA.eval (.tmp 15) = f 3 := by rw [← hA]; exact putAll_at f 15 3 slotsPsy3 a0 sbPsy3 (by kernel_rfl) zsz rfl rfl
      exact flw_val rfl rfl (f 3) (ex_assign (.tmp 15) rfl e15) hS (Flz.refl _) (show updF f 4 (f 3) 4 = updF f 4 (f 3) 3 by rw [updF_self, updF_ne f _ (by decide)])
  intro f u3 hS hf hap
  have h0 : f 0 = .int .u64 ((s : Int)) := hf 0 (by decide)
  have h1 : f 1 = .int .i64 n := hf 1 (by decide)
  have h2 : f 2 = .agg (encU x).toArray := hf 2 (by decide)
  obtain ⟨v3_3, h3, hu3⟩ : ∃ v, f 3 = v ∧ Ins u3 v (places s n x) := ⟨_, rfl, (hf 3 (by decide))⟩
  have HU3_3 := Lib.hid hu3
  clear hu3
  have h4 : f 4 = v3_3 := Eq.trans (hf 4 (by decide)) h3
  clear hf hap
  clear zsz z0 z1 z5
  subst ha0
  simp only [slotsPsy3, putAll, h0, h1, h2, h3, h4, Act.put, List.setIfInBounds_toArray, List.set_cons_zero, List.set_cons_succ]
  clear h0 h1 h2 h3 h4
  refine tl_nil ?_
  replace HX1 := Lib.hid (HX1.out.keepB hS)
  replace HB := Lib.hid (HB.out.trans (hS.mono HB.out.size))
  clear hS
  go_upto_region 4 with fail
  refine wp_act (fun a0 ha0 => ?_)
  have zsz : a0.tmps.size = 73 := by rw [ha0]; rfl
  have z5 : a0.eval (.tmp 5) = .pointer (some ⟨g1, 0, none⟩) := by rw [ha0]; rfl
  refine wp_region_flwo (E := Flz) [] slotsPsy4 waitPsy4 [Fct.val Flz 0 (.agg (encU x).toArray), Fct.val Flz 1 (.int .i64 (((levelN x : Nat) : Int))), Fct.val Flz 2 (.int .i64 (((levelN x : Nat) : Int)))] (fun w' => Below u3.heap.size u3 w') _ 3 0 chkPsy4 (by kernel_rfl) (by kernel_rfl) (by kernel_rfl) (by decide) (Below.refl _ _) ?_ ?_
  · refine lt_s (lt_s (lt_s (lt_0) ?_) ?_) ?_
    · intro f w1 hS hf
      generalize hA : putAll _ _ f = aA
      have r5 : aA.eval (.tmp 5) = .pointer (some ⟨g1, 0, none⟩) := by rw [← hA]; exact putAll_off f 5 slotsPsy4 a0 (by kernel_rfl) z5
      exact flw_val rfl rfl (.agg (encU x).toArray) (ex_loadR 27 (.tmp 5) rfl ⟨g1, 0, none⟩ r5 (fun _ => by kernel_rfl) (encU x) (by rw [encU_len]; kernel_rfl) ((HX1.out.keepB hS).part (encU x) 0 (encU_all' x))) hS (Flz.refl _) (updF_self _ _ _)
    · intro f w1 hS hf
      generalize hA : putAll _ _ f = aA
      have h16 : f 0 = .agg (encU x).toArray := hf 0 (by decide)
      have r16 : aA.eval (.tmp 16) = .agg (encU x).toArray := by rw [← hA]; exact putAll_at f 16 0 slotsPsy4 a0 sbPsy4 (by kernel_rfl) zsz rfl h16
      exact flw_call rfl rfl 9 #[(.tmp 16)] _ rfl #[.agg (encU x).toArray] (by simp only [List.map_toArray, List.map_cons, List.map_nil, r16]) (fun w => by kernel_rfl) (fun v _ => v = .int .i64 (((levelN x : Nat) : Int))) (as_val (level14_any x w1 (HL.out.keep (HB.out.trans (hS.mono HB.out.size)) HSZ.out) (HD.out _ (HB.out.trans (hS.mono HB.out.size))))) (fun v w' hr hb => ⟨hS.trans (hb.mono hS.size), Flz.of hb, (updF_self _ _ _).trans hr⟩)
    · intro f w1 hS hf
      generalize hA : putAll _ _ f = aA
      have h17 : f 1 = .int .i64 (((levelN x : Nat) : Int)) := hf 1 (by decide)
      have r17 : aA.eval (.tmp 17) = .int .i64 (((levelN x : Nat) : Int)) := by rw [← hA]; exact putAll_at f 17 1 slotsPsy4 a0 sbPsy4 (by kernel_rfl) zsz rfl h17
      exact flw_val rfl rfl (.int .i64 (((levelN x : Nat) : Int))) (ex_assign (.tmp 17) rfl r17) hS (Flz.refl _) (updF_self _ _ _)
  intro f u4 hS hf hap
  have h0 : f 0 = .agg (encU x).toArray := hf 0 (by decide)
  have h1 : f 1 = .int .i64 (((levelN x : Nat) : Int)) := hf 1 (by decide)
  have h2 : f 2 = .int .i64 (((levelN x : Nat) : Int)) := hf 2 (by decide)
  clear hf hap
  clear zsz z5
  subst ha0
  simp only [slotsPsy4, putAll, h0, h1, h2, Act.put, List.setIfInBounds_toArray, List.set_cons_zero, List.set_cons_succ]
  clear h0 h1 h2
  refine tl_nil ?_
  replace HX1 := Lib.hid (HX1.out.keepB hS)
  replace HU3_3 := Lib.hid (HU3_3.out.keep hS)
  replace HB := Lib.hid (HB.out.trans (hS.mono HB.out.size))
  clear hS
  go_upto_region 5 with fail
  refine wp_act (fun a0 ha0 => ?_)
  have zsz : a0.tmps.size = 73 := by rw [ha0]; rfl
  have z1 : a0.eval (.tmp 1) = .int .i64 n := by rw [ha0]; rfl
  have z7 : a0.eval (.tmp 7) = v3_3 := by rw [ha0]; rfl
  have z0 : a0.eval (.tmp 0) = .int .u64 ((s : Int)) := by rw [ha0]; rfl
  have z5 : a0.eval (.tmp 5) = .pointer (some ⟨g1, 0, none⟩) := by rw [ha0]; rfl
  have z8 : a0.eval (.tmp 8) = .int .i64 (((levelN x : Nat) : Int)) := by rw [ha0]; rfl
  refine wp_region_flwo (E := Flz) [] slotsPsy5 waitPsy5 [Fct.val Flz 0 (.int .i64 n), Fct.val Flz 1 (.bool (goodN n)), Fct.val Flz 2 (.int .i64 n), Fct.val Flz 3 (.bool (goodN n)), Fct.val Flz 4 (.bool false), Fct.val Flz 5 (.bool false), Fct.val Flz 6 (v3_3), Fct.val Flz 7 (.int .u64 ((s : Int))), Fct.val Flz 8 (.int .i64 n), Fct.val Flz 9 (.agg (encU x).toArray), Fct.obj 10 (fun v w => Ins w v (places s n x)) (fun _ _ _ h he => h.flzE he), Fct.val Flz 11 (.bool true), Fct.val Flz 12 (.bool false), Fct.val Flz 13 (.bool false), Fct.val Flz 14 (.bool false), Fct.val Flz 15 (.int .i64 (((levelN x : Nat) : Int))), Fct.val Flz 16 (.agg (encU x).toArray), Fct.val Flz 17 (.int .i64 (((levelN x : Nat) : Int))), Fct.val Flz 18 (.bool false), Fct.val Flz 19 (.bool false), Fct.val Flz 20 (.bool false), Fct.val Flz 21 (.int .i64 (((levelN x : Nat) : Int))), Fct.val Flz 22 (.bool false), Fct.val Flz 23 (.bool false), Fct.val Flz 24 (.bool false), Fct.val Flz 25 (.int .i64 (((levelN x : Nat) : Int))), Fct.val Flz 26 (.bool false), Fct.val Flz 27 (.bool false)] (fun w' => Below u4.heap.size u4 w') _ 28 0 chkPsy5 (by kernel_rfl) (by kernel_rfl) (by kernel_rfl) (by decide) (Below.refl _ _) ?_ ?_
  · refine lt_s (lt_s (lt_s (lt_s (lt_s (lt_s (lt_s (lt_s (lt_s (lt_s (lt_s (lt_s (lt_s (lt_s (lt_s (lt_s (lt_s (lt_s (lt_s (lt_s (lt_s (lt_s (lt_s (lt_s (lt_s (lt_s (lt_s (lt_s (lt_0) ?_) ?_) ?_) ?_) ?_) ?_) ?_) ?_) ?_) ?_) ?_) ?_) ?_) ?_) ?_) ?_) ?_) ?_) ?_) ?_) ?_) ?_) ?_) ?_) ?_) ?_) ?_) ?_
    · intro f w1 hS hf
      generalize hA : putAll _ _ f = aA
      have r1 : aA.eval (.tmp 1) = .int .i64 n := by rw [← hA]; exact putAll_off f 1 slotsPsy5 a0 (by kernel_rfl) z1
      exact flw_val rfl rfl (.int .i64 n) (ex_move (.tmp 1) rfl r1) hS (Flz.refl _) (updF_self _ _ _)
    · intro f w1 hS hf
      generalize hA : putAll _ _ f = aA
      have h18 : f 0 = .int .i64 n := hf 0 (by decide)
      have r18 : aA.eval (.tmp 18) = .int .i64 n := by rw [← hA]; exact putAll_at f 18 0 slotsPsy5 a0 sbPsy5 (by kernel_rfl) zsz rfl h18
      exact flw_call rfl rfl 7 #[(.tmp 18)] _ rfl #[.int .i64 n] (by simp only [List.map_toArray, List.map_cons, List.map_nil, r18]) (fun w => by kernel_rfl) (fun v _ => v = .bool (goodN n)) (good14_any n w1) (fun v w' hr hb => ⟨hS.trans (hb.mono hS.size), Flz.of hb, (updF_self _ _ _).trans hr⟩)
    · intro f w1 hS hf
      generalize hA : putAll _ _ f = aA
      have r1 : aA.eval (.tmp 1) = .int .i64 n := by rw [← hA]; exact putAll_off f 1 slotsPsy5 a0 (by kernel_rfl) z1
      exact flw_val rfl rfl (.int .i64 n) (ex_move (.tmp 1) rfl r1) hS (Flz.refl _) (updF_self _ _ _)
    · intro f w1 hS hf
      generalize hA : putAll _ _ f = aA
      have h20 : f 2 = .int .i64 n := hf 2 (by decide)
      have r20 : aA.eval (.tmp 20) = .int .i64 n := by rw [← hA]; exact putAll_at f 20 2 slotsPsy5 a0 sbPsy5 (by kernel_rfl) zsz rfl h20
      exact flw_call rfl rfl 10 #[(.tmp 20)] _ rfl #[.int .i64 n] (by simp only [List.map_toArray, List.map_cons, List.map_nil, r20]) (fun w => by kernel_rfl) (fun v _ => v = .bool (goodN n)) (goodR14_any n w1) (fun v w' hr hb => ⟨hS.trans (hb.mono hS.size), Flz.of hb, (updF_self _ _ _).trans hr⟩)
    · intro f w1 hS hf
      generalize hA : putAll _ _ f = aA
      have h19 : f 1 = .bool (goodN n) := hf 1 (by decide)
      have r19 : aA.eval (.tmp 19) = .bool (goodN n) := by rw [← hA]; exact putAll_at f 19 1 slotsPsy5 a0 sbPsy5 (by kernel_rfl) zsz rfl h19
      have h21 : f 3 = .bool (goodN n) := hf 3 (by decide)
      have r21 : aA.eval (.tmp 21) = .bool (goodN n) := by rw [← hA]; exact putAll_at f 21 3 slotsPsy5 a0 sbPsy5 (by kernel_rfl) zsz rfl h21
      exact flw_val rfl rfl (.bool false) (Eq.trans (ex_neB _ _ (.tmp 19) (.tmp 21) rfl (by kernel_rfl) (goodN n) (goodN n) r19 r21) (by rw [(show (!((goodN n) == (goodN n))) = false by simp)])) hS (Flz.refl _) (updF_self _ _ _)
    · intro f w1 hS hf
      generalize hA : putAll _ _ f = aA
      have h22 : f 4 = .bool false := hf 4 (by decide)
      have r22 : aA.eval (.tmp 22) = .bool false := by rw [← hA]; exact putAll_at f 22 4 slotsPsy5 a0 sbPsy5 (by kernel_rfl) zsz rfl h22
      exact flw_val rfl rfl (.bool false) (ex_move (.tmp 22) rfl r22) hS (Flz.refl _) (updF_self _ _ _)
    · intro f w1 hS hf
      generalize hA : putAll _ _ f = aA
      have g23 : f 5 = .bool false := hf 5 (by decide)
      have t23 : aA.tmps[23]? = some (.bool false) := by rw [← hA]; exact putAll_g f 23 5 slotsPsy5 a0 sbPsy5 (by kernel_rfl) zsz rfl g23
      have r7 : aA.eval (.tmp 7) = v3_3 := by rw [← hA]; exact putAll_off f 7 slotsPsy5 a0 (by kernel_rfl) z7
      exact flw_val rfl ((wanted_of rfl 23 rfl t23).trans rfl) (v3_3) (ex_move (.tmp 7) rfl r7) hS (Flz.refl _) (updF_self _ _ _)
    · intro f w1 hS hf
      generalize hA : putAll _ _ f = aA
      have g23 : f 5 = .bool false := hf 5 (by decide)
      have t23 : aA.tmps[23]? = some (.bool false) := by rw [← hA]; exact putAll_g f 23 5 slotsPsy5 a0 sbPsy5 (by kernel_rfl) zsz rfl g23
      have r0 : aA.eval (.tmp 0) = .int .u64 ((s : Int)) := by rw [← hA]; exact putAll_off f 0 slotsPsy5 a0 (by kernel_rfl) z0
      exact flw_val rfl ((wanted_of rfl 23 rfl t23).trans rfl) (.int .u64 ((s : Int))) (ex_move (.tmp 0) rfl r0) hS (Flz.refl _) (updF_self _ _ _)
    · intro f w1 hS hf
      generalize hA : putAll _ _ f = aA
      have g23 : f 5 = .bool false := hf 5 (by decide)
      have t23 : aA.tmps[23]? = some (.bool false) := by rw [← hA]; exact putAll_g f 23 5 slotsPsy5 a0 sbPsy5 (by kernel_rfl) zsz rfl g23
      have r1 : aA.eval (.tmp 1) = .int .i64 n := by rw [← hA]; exact putAll_off f 1 slotsPsy5 a0 (by kernel_rfl) z1
      exact flw_val rfl ((wanted_of rfl 23 rfl t23).trans rfl) (.int .i64 n) (ex_move (.tmp 1) rfl r1) hS (Flz.refl _) (updF_self _ _ _)
    · intro f w1 hS hf
      generalize hA : putAll _ _ f = aA
      have g23 : f 5 = .bool false := hf 5 (by decide)
      have t23 : aA.tmps[23]? = some (.bool false) := by rw [← hA]; exact putAll_g f 23 5 slotsPsy5 a0 sbPsy5 (by kernel_rfl) zsz rfl g23
      have r5 : aA.eval (.tmp 5) = .pointer (some ⟨g1, 0, none⟩) := by rw [← hA]; exact putAll_off f 5 slotsPsy5 a0 (by kernel_rfl) z5
      exact flw_val rfl ((wanted_of rfl 23 rfl t23).trans rfl) (.agg (encU x).toArray) (ex_loadR 27 (.tmp 5) rfl ⟨g1, 0, none⟩ r5 (fun _ => by kernel_rfl) (encU x) (by rw [encU_len]; kernel_rfl) ((HX1.out.keepB hS).part (encU x) 0 (encU_all' x))) hS (Flz.refl _) (updF_self _ _ _)
    · intro f w1 hS hf
      generalize hA : putAll _ _ f = aA
      have g23 : f 5 = .bool false := hf 5 (by decide)
      have t23 : aA.tmps[23]? = some (.bool false) := by rw [← hA]; exact putAll_g f 23 5 slotsPsy5 a0 sbPsy5 (by kernel_rfl) zsz rfl g23
      have h25 : f 7 = .int .u64 ((s : Int)) := hf 7 (by decide)
      have r25 : aA.eval (.tmp 25) = .int .u64 ((s : Int)) := by rw [← hA]; exact putAll_at f 25 7 slotsPsy5 a0 sbPsy5 (by kernel_rfl) zsz rfl h25
      have h26 : f 8 = .int .i64 n := hf 8 (by decide)
      have r26 : aA.eval (.tmp 26) = .int .i64 n := by rw [← hA]; exact putAll_at f 26 8 slotsPsy5 a0 sbPsy5 (by kernel_rfl) zsz rfl h26
      have h27 : f 9 = .agg (encU x).toArray := hf 9 (by decide)
      have r27 : aA.eval (.tmp 27) = .agg (encU x).toArray := by rw [← hA]; exact putAll_at f 27 9 slotsPsy5 a0 sbPsy5 (by kernel_rfl) zsz rfl h27
      exact flw_call rfl ((wanted_of rfl 23 rfl t23).trans rfl) 12 #[(.tmp 25), (.tmp 26), (.tmp 27)] _ rfl #[.int .u64 ((s : Int)), .int .i64 n, .agg (encU x).toArray] (by simp only [List.map_toArray, List.map_cons, List.map_nil, r25, r26, r27]) (fun w => by kernel_rfl) (fun v w' => Ins w' v (places s n x)) (rplaces_any s HSD.out n x w1) (fun v w' hr hb => ⟨hS.trans (hb.mono hS.size), Flz.of hb, (show Ins w' (updF f 10 v 10) (places s n x) by rw [updF_self]; exact hr)⟩)
    · intro f w1 hS hf
      generalize hA : putAll _ _ f = aA
      have g23 : f 5 = .bool false := hf 5 (by decide)
      have t23 : aA.tmps[23]? = some (.bool false) := by rw [← hA]; exact putAll_g f 23 5 slotsPsy5 a0 sbPsy5 (by kernel_rfl) zsz rfl g23
      have h24 : f 6 = v3_3 := hf 6 (by decide)
      have r24 : aA.eval (.tmp 24) = v3_3 := by rw [← hA]; exact putAll_at f 24 6 slotsPsy5 a0 sbPsy5 (by kernel_rfl) zsz rfl h24
      have hu10 : Ins w1 (f 10) (places s n x) := (hf 10 (by decide))
      have e28 : aA.eval (.tmp 28) = f 10 := by rw [← hA]; exact putAll_at f 28 10 slotsPsy5 a0 sbPsy5 (by kernel_rfl) zsz rfl rfl
      exact flw_call rfl ((wanted_of rfl 23 rfl t23).trans rfl) 11 #[(.tmp 24), (.tmp 28)] _ rfl #[v3_3, f 10] (by simp only [List.map_toArray, List.map_cons, List.map_nil, r24, e28]) (fun w => by kernel_rfl) (fun v _ => v = .bool true) (as_any (as_val (ints14_any _ _ _ _ (places_le _ _ _) w1 (HU3_3.out.keep hS) hu10)) (congrArg Value.bool (decide_eq_true rfl))) (fun v w' hr hb => ⟨hS.trans (hb.mono hS.size), Flz.of hb, (updF_self _ _ _).trans hr⟩)
    · intro f w1 hS hf
      generalize hA : putAll _ _ f = aA
      have g23 : f 5 = .bool false := hf 5 (by decide)
      have t23 : aA.tmps[23]? = some (.bool false) := by rw [← hA]; exact putAll_g f 23 5 slotsPsy5 a0 sbPsy5 (by kernel_rfl) zsz rfl g23
      have h29 : f 11 = .bool true := hf 11 (by decide)
      have r29 : aA.eval (.tmp 29) = .bool true := by rw [← hA]; exact putAll_at f 29 11 slotsPsy5 a0 sbPsy5 (by kernel_rfl) zsz rfl h29
      exact flw_val rfl ((wanted_of rfl 23 rfl t23).trans rfl) (.bool false) (ex_not _ (.tmp 29) rfl r29) hS (Flz.refl _) (updF_self _ _ _)
    · intro f w1 hS hf
      generalize hA : putAll _ _ f = aA
      have h23 : f 5 = .bool false := hf 5 (by decide)
      have r23 : aA.eval (.tmp 23) = .bool false := by rw [← hA]; exact putAll_at f 23 5 slotsPsy5 a0 sbPsy5 (by kernel_rfl) zsz rfl h23
      have h30 : f 12 = .bool false := hf 12 (by decide)
      have r30 : aA.eval (.tmp 30) = .bool false := by rw [← hA]; exact putAll_at f 30 12 slotsPsy5 a0 sbPsy5 (by kernel_rfl) zsz rfl h30
      exact flw_val rfl rfl (.bool false) (ex_pick (.tmp 23) _ (.tmp 30) rfl false r23 ((if_neg (by decide)).trans r30)) hS (Flz.refl _) (updF_self _ _ _)
    · intro f w1 hS hf
      generalize hA : putAll _ _ f = aA
      have h31 : f 13 = .bool false := hf 13 (by decide)
      have r31 : aA.eval (.tmp 31) = .bool false := by rw [← hA]; exact putAll_at f 31 13 slotsPsy5 a0 sbPsy5 (by kernel_rfl) zsz rfl h31
      exact flw_val rfl rfl (.bool false) (ex_move (.tmp 31) rfl r31) hS (Flz.refl _) (updF_self _ _ _)
    · intro f w1 hS hf
      generalize hA : putAll _ _ f = aA
      have g32 : f 14 = .bool false := hf 14 (by decide)
      have t32 : aA.tmps[32]? = some (.bool false) := by rw [← hA]; exact putAll_g f 32 14 slotsPsy5 a0 sbPsy5 (by kernel_rfl) zsz rfl g32
      have r8 : aA.eval (.tmp 8) = .int .i64 (((levelN x : Nat) : Int)) := by rw [← hA]; exact putAll_off f 8 slotsPsy5 a0 (by kernel_rfl) z8
      exact flw_val rfl ((wanted_of rfl 32 rfl t32).trans rfl) (.int .i64 (((levelN x : Nat) : Int))) (ex_move (.tmp 8) rfl r8) hS (Flz.refl _) (updF_self _ _ _)
    · intro f w1 hS hf
      generalize hA : putAll _ _ f = aA
      have g32 : f 14 = .bool false := hf 14 (by decide)
      have t32 : aA.tmps[32]? = some (.bool false) := by rw [← hA]; exact putAll_g f 32 14 slotsPsy5 a0 sbPsy5 (by kernel_rfl) zsz rfl g32
      have r5 : aA.eval (.tmp 5) = .pointer (some ⟨g1, 0, none⟩) := by rw [← hA]; exact putAll_off f 5 slotsPsy5 a0 (by kernel_rfl) z5
      exact flw_val rfl ((wanted_of rfl 32 rfl t32).trans rfl) (.agg (encU x).toArray) (ex_loadR 27 (.tmp 5) rfl ⟨g1, 0, none⟩ r5 (fun _ => by kernel_rfl) (encU x) (by rw [encU_len]; kernel_rfl) ((HX1.out.keepB hS).part (encU x) 0 (encU_all' x))) hS (Flz.refl _) (updF_self _ _ _)
    · intro f w1 hS hf
      generalize hA : putAll _ _ f = aA
      have g32 : f 14 = .bool false := hf 14 (by decide)
      have t32 : aA.tmps[32]? = some (.bool false) := by rw [← hA]; exact putAll_g f 32 14 slotsPsy5 a0 sbPsy5 (by kernel_rfl) zsz rfl g32
      have h34 : f 16 = .agg (encU x).toArray := hf 16 (by decide)
      have r34 : aA.eval (.tmp 34) = .agg (encU x).toArray := by rw [← hA]; exact putAll_at f 34 16 slotsPsy5 a0 sbPsy5 (by kernel_rfl) zsz rfl h34
      exact flw_call rfl ((wanted_of rfl 32 rfl t32).trans rfl) 13 #[(.tmp 34)] _ rfl #[.agg (encU x).toArray] (by simp only [List.map_toArray, List.map_cons, List.map_nil, r34]) (fun w => by kernel_rfl) (fun v _ => v = .int .i64 (((levelN x : Nat) : Int))) (as_val (rlevel_any x w1)) (fun v w' hr hb => ⟨hS.trans (hb.mono hS.size), Flz.of hb, (updF_self _ _ _).trans hr⟩)
    · intro f w1 hS hf
      generalize hA : putAll _ _ f = aA
      have g32 : f 14 = .bool false := hf 14 (by decide)
      have t32 : aA.tmps[32]? = some (.bool false) := by rw [← hA]; exact putAll_g f 32 14 slotsPsy5 a0 sbPsy5 (by kernel_rfl) zsz rfl g32
      have h33 : f 15 = .int .i64 (((levelN x : Nat) : Int)) := hf 15 (by decide)
      have r33 : aA.eval (.tmp 33) = .int .i64 (((levelN x : Nat) : Int)) := by rw [← hA]; exact putAll_at f 33 15 slotsPsy5 a0 sbPsy5 (by kernel_rfl) zsz rfl h33
      have h35 : f 17 = .int .i64 (((levelN x : Nat) : Int)) := hf 17 (by decide)
      have r35 : aA.eval (.tmp 35) = .int .i64 (((levelN x : Nat) : Int)) := by rw [← hA]; exact putAll_at f 35 17 slotsPsy5 a0 sbPsy5 (by kernel_rfl) zsz rfl h35
      exact flw_val rfl ((wanted_of rfl 32 rfl t32).trans rfl) (.bool false) (Eq.trans (ex_int .neq _ _ (.tmp 33) (.tmp 35) rfl .i64 (((levelN x : Nat) : Int)) (((levelN x : Nat) : Int)) r33 r35 (.bool ((((levelN x : Nat) : Int)) != (((levelN x : Nat) : Int)))) (fun _ => rfl)) (by rw [(show ((((levelN x : Nat) : Int)) != (((levelN x : Nat) : Int))) = false by simp)])) hS (Flz.refl _) (updF_self _ _ _)
    · intro f w1 hS hf
      generalize hA : putAll _ _ f = aA
      have h32 : f 14 = .bool false := hf 14 (by decide)
      have r32 : aA.eval (.tmp 32) = .bool false := by rw [← hA]; exact putAll_at f 32 14 slotsPsy5 a0 sbPsy5 (by kernel_rfl) zsz rfl h32
      have h36 : f 18 = .bool false := hf 18 (by decide)
      have r36 : aA.eval (.tmp 36) = .bool false := by rw [← hA]; exact putAll_at f 36 18 slotsPsy5 a0 sbPsy5 (by kernel_rfl) zsz rfl h36
      exact flw_val rfl rfl (.bool false) (ex_pick (.tmp 32) _ (.tmp 36) rfl false r32 ((if_neg (by decide)).trans r36)) hS (Flz.refl _) (updF_self _ _ _)
    · intro f w1 hS hf
      generalize hA : putAll _ _ f = aA
      have h37 : f 19 = .bool false := hf 19 (by decide)
      have r37 : aA.eval (.tmp 37) = .bool false := by rw [← hA]; exact putAll_at f 37 19 slotsPsy5 a0 sbPsy5 (by kernel_rfl) zsz rfl h37
      exact flw_val rfl rfl (.bool false) (ex_move (.tmp 37) rfl r37) hS (Flz.refl _) (updF_self _ _ _)
    · intro f w1 hS hf
      generalize hA : putAll _ _ f = aA
      have g38 : f 20 = .bool false := hf 20 (by decide)
      have t38 : aA.tmps[38]? = some (.bool false) := by rw [← hA]; exact putAll_g f 38 20 slotsPsy5 a0 sbPsy5 (by kernel_rfl) zsz rfl g38
      have r8 : aA.eval (.tmp 8) = .int .i64 (((levelN x : Nat) : Int)) := by rw [← hA]; exact putAll_off f 8 slotsPsy5 a0 (by kernel_rfl) z8
      exact flw_val rfl ((wanted_of rfl 38 rfl t38).trans rfl) (.int .i64 (((levelN x : Nat) : Int))) (ex_move (.tmp 8) rfl r8) hS (Flz.refl _) (updF_self _ _ _)
    · intro f w1 hS hf
      generalize hA : putAll _ _ f = aA
      have g38 : f 20 = .bool false := hf 20 (by decide)
      have t38 : aA.tmps[38]? = some (.bool false) := by rw [← hA]; exact putAll_g f 38 20 slotsPsy5 a0 sbPsy5 (by kernel_rfl) zsz rfl g38
      have h39 : f 21 = .int .i64 (((levelN x : Nat) : Int)) := hf 21 (by decide)
      have r39 : aA.eval (.tmp 39) = .int .i64 (((levelN x : Nat) : Int)) := by rw [← hA]; exact putAll_at f 39 21 slotsPsy5 a0 sbPsy5 (by kernel_rfl) zsz rfl h39
      exact flw_val rfl ((wanted_of rfl 38 rfl t38).trans rfl) (.bool false) (Eq.trans (ex_int .lss _ _ (.tmp 39) _ rfl .i64 (((levelN x : Nat) : Int)) 0 r39 rfl (.bool (decide ((((levelN x : Nat) : Int)) < (0 : Int)))) (fun _ => rfl)) (by rw [(show decide ((((levelN x : Nat) : Int)) < (0 : Int)) = false from decide_eq_false (by omega))])) hS (Flz.refl _) (updF_self _ _ _)
    · intro f w1 hS hf
      generalize hA : putAll _ _ f = aA
      have h38 : f 20 = .bool false := hf 20 (by decide)
      have r38 : aA.eval (.tmp 38) = .bool false := by rw [← hA]; exact putAll_at f 38 20 slotsPsy5 a0 sbPsy5 (by kernel_rfl) zsz rfl h38
      have h40 : f 22 = .bool false := hf 22 (by decide)
      have r40 : aA.eval (.tmp 40) = .bool false := by rw [← hA]; exact putAll_at f 40 22 slotsPsy5 a0 sbPsy5 (by kernel_rfl) zsz rfl h40
      exact flw_val rfl rfl (.bool false) (ex_pick (.tmp 38) _ (.tmp 40) rfl false r38 ((if_neg (by decide)).trans r40)) hS (Flz.refl _) (updF_self _ _ _)
    · intro f w1 hS hf
      generalize hA : putAll _ _ f = aA
      have h41 : f 23 = .bool false := hf 23 (by decide)
      have r41 : aA.eval (.tmp 41) = .bool false := by rw [← hA]; exact putAll_at f 41 23 slotsPsy5 a0 sbPsy5 (by kernel_rfl) zsz rfl h41
      exact flw_val rfl rfl (.bool false) (ex_move (.tmp 41) rfl r41) hS (Flz.refl _) (updF_self _ _ _)
    · intro f w1 hS hf
      generalize hA : putAll _ _ f = aA
      have g42 : f 24 = .bool false := hf 24 (by decide)
      have t42 : aA.tmps[42]? = some (.bool false) := by rw [← hA]; exact putAll_g f 42 24 slotsPsy5 a0 sbPsy5 (by kernel_rfl) zsz rfl g42
      have r8 : aA.eval (.tmp 8) = .int .i64 (((levelN x : Nat) : Int)) := by rw [← hA]; exact putAll_off f 8 slotsPsy5 a0 (by kernel_rfl) z8
      exact flw_val rfl ((wanted_of rfl 42 rfl t42).trans rfl) (.int .i64 (((levelN x : Nat) : Int))) (ex_move (.tmp 8) rfl r8) hS (Flz.refl _) (updF_self _ _ _)
    · intro f w1 hS hf
      generalize hA : putAll _ _ f = aA
      have g42 : f 24 = .bool false := hf 24 (by decide)
      have t42 : aA.tmps[42]? = some (.bool false) := by rw [← hA]; exact putAll_g f 42 24 slotsPsy5 a0 sbPsy5 (by kernel_rfl) zsz rfl g42
      have h43 : f 25 = .int .i64 (((levelN x : Nat) : Int)) := hf 25 (by decide)
      have r43 : aA.eval (.tmp 43) = .int .i64 (((levelN x : Nat) : Int)) := by rw [← hA]; exact putAll_at f 43 25 slotsPsy5 a0 sbPsy5 (by kernel_rfl) zsz rfl h43
      exact flw_val rfl ((wanted_of rfl 42 rfl t42).trans rfl) (.bool false) (Eq.trans (ex_int .gtr _ _ (.tmp 43) _ rfl .i64 (((levelN x : Nat) : Int)) 9 r43 rfl (.bool (decide ((((levelN x : Nat) : Int)) > (9 : Int)))) (fun _ => rfl)) (by rw [(show decide ((((levelN x : Nat) : Int)) > (9 : Int)) = false from decide_eq_false (by have := levelN_le x; omega))])) hS (Flz.refl _) (updF_self _ _ _)
    · intro f w1 hS hf
      generalize hA : putAll _ _ f = aA
      have h42 : f 24 = .bool false := hf 24 (by decide)
      have r42 : aA.eval (.tmp 42) = .bool false := by rw [← hA]; exact putAll_at f 42 24 slotsPsy5 a0 sbPsy5 (by kernel_rfl) zsz rfl h42
      have h44 : f 26 = .bool false := hf 26 (by decide)
      have r44 : aA.eval (.tmp 44) = .bool false := by rw [← hA]; exact putAll_at f 44 26 slotsPsy5 a0 sbPsy5 (by kernel_rfl) zsz rfl h44
      exact flw_val rfl rfl (.bool false) (ex_pick (.tmp 42) _ (.tmp 44) rfl false r42 ((if_neg (by decide)).trans r44)) hS (Flz.refl _) (updF_self _ _ _)
  intro f u5 hS hf hap
  have h0 : f 0 = .int .i64 n := hf 0 (by decide)
  have h1 : f 1 = .bool (goodN n) := hf 1 (by decide)
  have h2 : f 2 = .int .i64 n := hf 2 (by decide)
  have h3 : f 3 = .bool (goodN n) := hf 3 (by decide)
  have h4 : f 4 = .bool false := hf 4 (by decide)
  have h5 : f 5 = .bool false := hf 5 (by decide)
  have h6 : f 6 = v3_3 := hf 6 (by decide)
  have h7 : f 7 = .int .u64 ((s : Int)) := hf 7 (by decide)
  have h8 : f 8 = .int .i64 n := hf 8 (by decide)
  have h9 : f 9 = .agg (encU x).toArray := hf 9 (by decide)
  obtain ⟨v5_10, h10, hu10⟩ : ∃ v, f 10 = v ∧ Ins u5 v (places s n x) := ⟨_, rfl, (hf 10 (by decide))⟩
  have HU5_10 := Lib.hid hu10
  clear hu10
  have h11 : f 11 = .bool true := hf 11 (by decide)
  have h12 : f 12 = .bool false := hf 12 (by decide)
  have h13 : f 13 = .bool false := hf 13 (by decide)
  have h14 : f 14 = .bool false := hf 14 (by decide)
  have h15 : f 15 = .int .i64 (((levelN x : Nat) : Int)) := hf 15 (by decide)
  have h16 : f 16 = .agg (encU x).toArray := hf 16 (by decide)
  have h17 : f 17 = .int .i64 (((levelN x : Nat) : Int)) := hf 17 (by decide)
  have h18 : f 18 = .bool false := hf 18 (by decide)
  have h19 : f 19 = .bool false := hf 19 (by decide)
  have h20 : f 20 = .bool false := hf 20 (by decide)
  have h21 : f 21 = .int .i64 (((levelN x : Nat) : Int)) := hf 21 (by decide)
  have h22 : f 22 = .bool false := hf 22 (by decide)
  have h23 : f 23 = .bool false := hf 23 (by decide)
  have h24 : f 24 = .bool false := hf 24 (by decide)
  have h25 : f 25 = .int .i64 (((levelN x : Nat) : Int)) := hf 25 (by decide)
  have h26 : f 26 = .bool false := hf 26 (by decide)
  have h27 : f 27 = .bool false := hf 27 (by decide)
  clear hf hap
  clear zsz z1 z7 z0 z5 z8
  subst ha0
  simp only [slotsPsy5, putAll, h0, h1, h2, h3, h4, h5, h6, h7, h8, h9, h10, h11, h12, h13, h14, h15, h16, h17, h18, h19, h20, h21, h22, h23, h24, h25, h26, h27, Act.put, List.setIfInBounds_toArray, List.set_cons_zero, List.set_cons_succ]
  clear h0 h1 h2 h3 h4 h5 h6 h7 h8 h9 h10 h11 h12 h13 h14 h15 h16 h17 h18 h19 h20 h21 h22 h23 h24 h25 h26 h27
  refine tl_nil ?_
  replace HX1 := Lib.hid (HX1.out.keepB hS)
  replace HU3_3 := Lib.hid (HU3_3.out.keep hS)
  replace HB := Lib.hid (HB.out.trans (hS.mono HB.out.size))
  clear hS
  obtain ⟨ql, cl, hql, hsl⟩ := HU3_3.out
  subst hql
  clear HU3_3
  have HSL := Lib.hid hsl
  have HPA : Hid (∀ i (h : i < (places s n x).length), _) := Lib.hid (fun i h => places_at (s := s) (n := n) (x := x) (i := i) h)
  generalize hPL : places s n x = PL at *
  clear hsl
  go_wp2_with fail
  go_loopw [9] (fun vi wr => ∃ i : Nat, i ≤ PL.length ∧ vi = .int .i64 i ∧ Below w.heap.size w wr ∧ Below u5.heap.size u5 wr) (fun vi _ => PL.length - (intOf vi).toNat)
  case atStart => exact ⟨0, by omega, rfl, HB.out, Below.refl _ _⟩
  case round =>
    clear HB
    rename_i wr
    obtain ⟨i, hi, rfl, hB, hb5⟩ := hrel
    have HB := Lib.hid hB
    have HB5 := Lib.hid hb5
    clear hB hb5
    by_cases hlt : i < PL.length
    · obtain ⟨p, hp1, hp2, rfl, hi3, hlo, hhi⟩ := HPA.out i hlt
      obtain ⟨pa, rfl, hca⟩ := Ins.cellsE HSL.out (by omega)
      have hc := hca wr HB5.out i hlt
      rw [Nat.mul_one] at hc
      have HLN : Hid (PL.length = 3) := Lib.hid (by rw [← hPL]; have h2 := hlt; rw [← hPL] at h2; cases hg : goodN (3 * (p : Int)) with | true => exact places_len hg | false => rw [places_none hg] at h2; simp at h2)
      generalize PL[i] = e at *
      clear hca hPL HPA
      have i1 : (i : Int) < (PL.length : Int) := by omega
      have q1 : (3 * (p : Int)) / 3 = p := by omega
      have hkp : (i : Int) * p ≤ 2 * 341 := by
        have : i = 0 ∨ i = 1 ∨ i = 2 := by omega
        rcases this with rfl | rfl | rfl <;> simp <;> omega
      have hkp0 : 0 ≤ (i : Int) * p := Int.mul_nonneg (by omega) (by omega)
      have hk1 : ((i : Int) + 1) * p = (i : Int) * p + p := by rw [Int.add_mul, Int.one_mul]
      have ek : IntKind.i64.wrap ((i : Int) * p) = (i : Int) * p := by rw [IntKind.wrap_i64]; omega
      have ea : IntKind.i64.wrap ((i : Int) * p + p) = (i : Int) * p + p := by rw [IntKind.wrap_i64]; omega
      have lo : ¬ e < (i : Int) * p := by omega
      have hi' : ¬ (i : Int) * p + p ≤ e := by omega
      have l3 : PL.length ≤ 3 := by have := HLN.out; omega
      generalize PL.length = m at *
      go_wp2_with fail
      go_roundw
      case rel => exact ⟨i + 1, by omega, by go_num, HB.out, HB5.out⟩
      case measure => simp [intOf]; omega
    · clear HPA
      have i1 : ¬ (i : Int) < (PL.length : Int) := by omega
      generalize PL.length = m at *
      go_wp2_with fail
      go_ret
      exact ⟨rfl, HB.out⟩
theorem placeSays_law (s : Nat) (hs : s < 18446744073709551616) (n : Int) (hn : -9223372036854775808 ≤ n ∧ n ≤ 9223372036854775807) (x : Su) (w : World) (hL : Laid w) (hD : DeB w) : Calls Tryd.prog 4 #[.int .u64 (s : Nat), .int .i64 n, .agg (encU x).toArray] w fun e w' => e = .returned (.bool true) ∧ Below w.heap.size w w' := placeSays_b s hs n hn x w w (Below.refl _ _) hL hD
end Go.Proofs.YtbkddcafalhflaaDoor
