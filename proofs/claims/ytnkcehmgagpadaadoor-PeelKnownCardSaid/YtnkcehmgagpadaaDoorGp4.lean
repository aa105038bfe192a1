/- Contracts: package table's New, Good; the document's own New; a clone of a row of cells. No condition. -/
import Derived.Test.YtnkcehmgagpadaaDoorSq
import Derived.Test.YtnkcehmgagpadaaDoorGp3
import Derived.Test.YtnkcehmgagpadaaDoorGp1
import Derived.Test.YtnkcehmgagpadaaDoorPlo
import Derived.Test.YtnkcehmgagpadaaDoorGp2
namespace Go.Proofs.YtnkcehmgagpadaaDoor
open Go.RowKit
def waitGt1 (i : Nat) : List Nat := ([[], [0], [1], [2], [3]] : List (List Nat)).getD i []
def slotsGt1 : List (Nat × Nat) := [(3, 0), (4, 1), (5, 2), (6, 3), (2, 4)]
theorem sbGt1 : slotsB slotsGt1 = true := by kernel_rfl
theorem chkGt1 : flwO slotsGt1 waitGt1 5 (regOf Tryd.f25.body 1) = true := by kernel_rfl
set_option maxHeartbeats 8000000 in
set_option maxRecDepth 100000 in
theorem goodT_b (s : Nat) (v : Value) (L : List Ce) (w w0 : World) (hB : Below w.heap.size w w0) (hC : Cs w v L) : Calls Tryd.prog 25 #[.agg #[.int .u64 (s : Int), v]] w0 fun e w' => (∃ v, e = .returned v ∧ v = .bool (goodN (L.length : Int))) ∧ Below w.heap.size w w' := by
 go_enter Tryd.func25, Tryd.ntmps25
 have HB := Lib.hid hB
 clear hB
 have HC := Lib.hid hC
 clear hC
 go_upto_region 0 with fail
 refine wp_region_lit ?_
 try simp only [Act.put, List.setIfInBounds_toArray, List.set_cons_zero, List.set_cons_succ]
 refine lp_step rfl (fun K hK => wp_box_row 28 (.tmp 0) rfl (.agg #[.int .u64 (s : Int), v]) rfl (hK _ _ ?_))
 try simp only [Act.put, List.setIfInBounds_toArray, List.set_cons_zero, List.set_cons_succ]
 show wpList _ _ _ _ _ (w0.alloc (.cells (([.int .u64 (s : Int), v] : List Value)).toArray 28))
 have HST : Hid (Below w0.heap.size w0 (w0.alloc (.cells (([.int .u64 (s : Int), v] : List Value)).toArray 28))) := Lib.hid ((Below.refl _ _).alloc (Nat.le_refl _) _)
 have HX1 : Hid (Has (w0.alloc (.cells (([.int .u64 (s : Int), v] : List Value)).toArray 28)) w0.heap.size 28 ([.int .u64 (s : Int), v])) := Lib.hid (Has.made' _ _ _ _ rfl)
 have HGg1 : Hid (w.heap.size ≤ w0.heap.size) := Lib.hid HB.out.size
 replace HB := Lib.hid (HB.out.trans (HST.out.mono HB.out.size))
 clear HST
 generalize w0.alloc (.cells (([.int .u64 (s : Int), v] : List Value)).toArray 28) = w1 at *
 generalize w0.heap.size = g1 at *
 refine lp_pure rfl (ex_assign _ rfl rfl) ?_
 try simp only [Act.put, List.setIfInBounds_toArray, List.set_cons_zero, List.set_cons_succ]
 refine wpList_nil ?_
 go_upto_region 1 with fail
 refine wp_act (fun a0 ha0 => ?_)
 have zsz : a0.tmps.size = 7 := by rw [ha0]; rfl
 have z1 : a0.eval (.tmp 1) = .pointer (some ⟨g1, 0, none⟩) := by rw [ha0]; rfl
 refine wrO [] slotsGt1 waitGt1 [Fct.val Flz 0 (.pointer (some ⟨g1, 1, none⟩)), Fct.val Flz 1 (v), Fct.val Flz 2 (.int .i64 (((L).length : Int))), Fct.val Flz 3 (.bool (goodN (((L).length : Int)))), Fct.val Flz 4 (.bool (goodN (((L).length : Int))))] (fun w' => Below w1.heap.size w1 w') _ 5 0 chkGt1 (by kernel_rfl) (by kernel_rfl) (by kernel_rfl) (by decide) (Below.refl _ _) ?_ ?_
 ·refine lt_s (lt_s (lt_s (lt_s (lt_s (lt_0) ?_) ?_) ?_) ?_) ?_
  ·intro f w1 hS hf aA hA
   have r1 := qO 1 hA z1
   exact fV rfl rfl _ (fldT1 28 (Or.inl rfl) (.tmp 1) rfl g1 r1) hS uS
  ·intro f w1 hS hf aA hA
   have r3 := qA 3 0 hA sbGt1 zsz (hf 0 (by decide))
   exact fV rfl rfl _ (ex_load1 26 (.tmp 3) rfl ⟨g1, 1, none⟩ r3 (fun _ => by kernel_rfl) ((HX1.out.keepB hS).cellv rfl)) hS uS
  ·intro f w1 hS hf aA hA
   have r4 := qA 4 1 hA sbGt1 zsz (hf 1 (by decide))
   obtain ⟨q9, c9, hv9, _⟩ := (HC.out.keep (HB.out.trans (hS.mono HB.out.size)))
   exact fV rfl rfl _ (ex_len 26 47 (.tmp 4) rfl (by kernel_rfl) q9 (L).length c9 (r4.trans hv9)) hS uS
  ·intro f w1 hS hf aA hA
   have r5 := qA 5 2 hA sbGt1 zsz (hf 2 (by decide))
   exact fC rfl rfl 31 #[(.tmp 5)] _ rfl #[.int .i64 (((L).length : Int))] (mp1 r5) (fun w => by kernel_rfl) _ (good14_any (((L).length : Int)) w1) hS (fun _ _ h => uS.trans h)
  ·intro f w1 hS hf aA hA
   have r6 := qA 6 3 hA sbGt1 zsz (hf 3 (by decide))
   exact fV rfl rfl _ (ex_assign (.tmp 6) rfl r6) hS uS
 intro f u1 hS hf hap
 have h0 := eqL (hf 0 (by decide)) rfl
 have h1 : f 1 = v := hf 1 (by decide)
 have h2 := eqL (hf 2 (by decide)) rfl
 have h3 := eqL (hf 3 (by decide)) rfl
 have h4 := eqL (hf 4 (by decide)) rfl
 clear hf hap
 clear zsz z1
 subst ha0
 simp only [slotsGt1, putAll, h0, h1, h2, h3, h4, Act.put, List.setIfInBounds_toArray, List.set_cons_zero, List.set_cons_succ]
 clear h0 h1 h2 h3 h4
 refine tl_nil ?_
 replace HX1 := Lib.hid (HX1.out.keepB hS)
 replace HB := Lib.hid (HB.out.trans (hS.mono HB.out.size))
 clear hS
 go_wp2_with fail
 go_ret
 exact ⟨⟨_, rfl, rfl⟩, HB.out⟩
theorem goodT_any (s : Nat) (v : Value) (L : List Ce) (w : World) (hC : Cs w v L) : Calls Tryd.prog 25 #[.agg #[.int .u64 (s : Int), v]] w fun e w' => (∃ v, e = .returned v ∧ v = .bool (goodN (L.length : Int))) ∧ Below w.heap.size w w' := goodT_b s v L w w (Below.refl _ _) hC
def waitnewT1f (i : Nat) : List Nat := ([[], [0], [1]] : List (List Nat)).getD i []
def slotsnewT1f : List (Nat × Nat) := [(6, 0), (7, 1), (8, 2)]
theorem sbnewT1f : slotsB slotsnewT1f = true := by kernel_rfl
theorem chknewT1f : flwO slotsnewT1f waitnewT1f 3 (regOf Tryd.f10.body 1) = true := by kernel_rfl
def waitnewT2f (i : Nat) : List Nat := ([[], [0], [0, 1]] : List (List Nat)).getD i []
def slotsnewT2f : List (Nat × Nat) := [(9, 0), (5, 2)]
theorem chknewT2f : flwO slotsnewT2f waitnewT2f 1 (regOf Tryd.f10.body 2) = true := by kernel_rfl
def waitnewT3t (i : Nat) : List Nat := ([[], [], [1], [0, 2], [0, 1, 2, 3], [0, 1, 2, 3, 4]] : List (List Nat)).getD i []
def slotsnewT3t : List (Nat × Nat) := [(10, 0), (11, 1), (12, 2), (13, 3), (5, 5)]
theorem sbnewT3t : slotsB slotsnewT3t = true := by kernel_rfl
theorem chknewT3t : flwO slotsnewT3t waitnewT3t 4 (regOf Tryd.f10.body 3) = true := by kernel_rfl
set_option maxHeartbeats 8000000 in
set_option maxRecDepth 100000 in
theorem newT_b (s : Nat) (n : Int) (w w0 : World) (hB : Below w.heap.size w w0) : Calls Tryd.prog 10 #[.int .u64 (s : Int), .int .i64 n] w0 fun e w' => (∃ v, e = .returned v ∧ ∃ x, v = .tuple #[.agg #[.int .u64 ((newT s n).1 : Int), x], .int .i64 (newT s n).2.2] ∧ RowO w0.heap.size 47 w' x (newT s n).2.1) ∧ Below w.heap.size w w' := by
 have HNT : Hid (newT s n = if goodN n = true then (s, List.replicate n.toNat zC, 0) else (0, [], 1)) := Lib.hid rfl
 have HH : Hid (w0.heap.size = w0.heap.size) := Lib.hid rfl
 obtain ⟨b0, hb0⟩ : ∃ b, b = w0.heap.size := ⟨_, rfl⟩
 rw [← hb0]
 have HB0 : Hid (b0 ≤ w0.heap.size) := Lib.hid (Nat.le_of_eq hb0)
 clear hb0 HH
 go_enter Tryd.func10, Tryd.ntmps10
 have HB := Lib.hid hB
 clear hB
 go_upto_region 0 with fail
 refine wp_region_lit ?_
 try simp only [Act.put, List.setIfInBounds_toArray, List.set_cons_zero, List.set_cons_succ]
 refine lp_step rfl (fun K hK => wp_alloc_row 28 rfl (.agg #[.int .u64 0, .slice none 0 0]) (fun w => by kernel_rfl) (hK _ _ ?_))
 try simp only [Act.put, List.setIfInBounds_toArray, List.set_cons_zero, List.set_cons_succ]
 show wpList _ _ _ _ _ (w0.alloc (.cells (([.int .u64 0, .slice none 0 0] : List Value)).toArray 28))
 have HST : Hid (Below w0.heap.size w0 (w0.alloc (.cells (([.int .u64 0, .slice none 0 0] : List Value)).toArray 28))) := Lib.hid ((Below.refl _ _).alloc (Nat.le_refl _) _)
 have HX1 : Hid (Has (w0.alloc (.cells (([.int .u64 0, .slice none 0 0] : List Value)).toArray 28)) w0.heap.size 28 ([.int .u64 0, .slice none 0 0])) := Lib.hid (Has.made' _ _ _ _ rfl)
 have HGg1 : Hid (w.heap.size ≤ w0.heap.size) := Lib.hid HB.out.size
 replace HB := Lib.hid (HB.out.trans (HST.out.mono HB.out.size))
 clear HST
 generalize w0.alloc (.cells (([.int .u64 0, .slice none 0 0] : List Value)).toArray 28) = w1 at *
 generalize w0.heap.size = g1 at *
 refine lp_pure rfl (ex_assign _ rfl rfl) ?_
 try simp only [Act.put, List.setIfInBounds_toArray, List.set_cons_zero, List.set_cons_succ]
 refine wpList_nil ?_
 obtain ⟨gd, hgd⟩ : ∃ gd, goodN n = gd := ⟨_, rfl⟩
 have HGD := Lib.hid hgd
 clear hgd
 have HB1 : Hid (b0 ≤ g1) := HB0
 cases gd
 ·go_upto_region 1 with fail
  refine wp_act (fun a0 ha0 => ?_)
  have zsz : a0.tmps.size = 14 := by rw [ha0]; rfl
  have z1 : a0.eval (.tmp 1) = .int .i64 n := by rw [ha0]; rfl
  refine wrO [] slotsnewT1f waitnewT1f [Fct.val Flz 0 (.int .i64 n), Fct.val Flz 1 (.bool false), Fct.val Flz 2 (.bool true)] (fun w' => Below w1.heap.size w1 w') _ 3 0 chknewT1f (by kernel_rfl) (by kernel_rfl) (by kernel_rfl) (by decide) (Below.refl _ _) ?_ ?_
  ·refine lt_s (lt_s (lt_s (lt_0) ?_) ?_) ?_
   ·intro f w1 hS hf aA hA
    have r1 := qO 1 hA z1
    exact fV rfl rfl _ (ex_move (.tmp 1) rfl r1) hS uS
   ·intro f w1 hS hf aA hA
    have r6 := qA 6 0 hA sbnewT1f zsz (hf 0 (by decide))
    exact fC rfl rfl 31 #[(.tmp 6)] _ rfl #[.int .i64 n] (mp1 r6) (fun w => by kernel_rfl) _ (as_any (good14_any n w1) (congrArg Value.bool HGD.out)) hS (fun _ _ h => uS.trans h)
   ·intro f w1 hS hf aA hA
    have r7 := qA 7 1 hA sbnewT1f zsz (hf 1 (by decide))
    exact fV rfl rfl _ (ex_not _ (.tmp 7) rfl r7) hS uS
  intro f u1 hS hf hap
  have h0 := eqL (hf 0 (by decide)) rfl
  have h1 := eqL (hf 1 (by decide)) rfl
  have h2 := eqL (hf 2 (by decide)) rfl
  clear hf hap
  clear zsz z1
  subst ha0
  simp only [slotsnewT1f, putAll, h0, h1, h2, Act.put, List.setIfInBounds_toArray, List.set_cons_zero, List.set_cons_succ]
  clear h0 h1 h2
  refine tl_nil ?_
  replace HX1 := Lib.hid (HX1.out.keepB hS)
  replace HB := Lib.hid (HB.out.trans (hS.mono HB.out.size))
  clear hS
  go_upto_region 2 with fail
  refine wp_act (fun a0 ha0 => ?_)
  have zsz : a0.tmps.size = 14 := by rw [ha0]; rfl
  refine wrO [] slotsnewT2f waitnewT2f [Fct.val Flz 0 (.agg #[.int .u64 0, .slice none 0 0])] (fun w' => Below u1.heap.size u1 w') _ 1 2 chknewT2f (by kernel_rfl) (by kernel_rfl) (by kernel_rfl) (by decide) (Below.refl _ _) ?_ ?_
  ·refine lt_s (lt_0) ?_
   ·intro f w1 hS hf aA hA
    exact fV rfl rfl _ (ex_build 28 _ rfl #[.int .u64 0, .slice none 0 0] [] (by kernel_rfl) builtT0) hS uS
  intro f u2 hS hf hap
  have h0 := eqL (hf 0 (by decide)) rfl
  clear hf hap
  clear zsz
  subst ha0
  simp only [slotsnewT2f, putAll, h0, Act.put, List.setIfInBounds_toArray, List.set_cons_zero, List.set_cons_succ]
  clear h0
  have hBS := HB.out.trans (hS.mono HB.out.size)
  replace HX1 := Lib.hid (HX1.out.keepB hS)
  clear hS
  refine tl_store rfl (by kernel_rfl) 28 (.tmp 4) (.tmp 9) rfl g1 ([.int .u64 0, .slice none 0 0]) _ rfl rfl _ HX1.out (by kernel_rfl) rfl (tb_ones _ rfl) ?_
  intro u3 hp hbl hot
  replace HX1 : Hid (Has u3 g1 28 ([.int .u64 0, .slice none 0 0])) := Lib.hid hp
  replace hBS := hBS.trans (hbl _ HGg1.out)
  clear hp hbl hot
  try simp only [Act.put]
  refine tl_pure rfl (by kernel_rfl) (.int .i64 1) (ex_assign _ rfl rfl) ?_
  try simp only [Act.put, List.setIfInBounds_toArray, List.set_cons_zero, List.set_cons_succ]
  refine tl_nil ?_
  replace HB := Lib.hid hBS
  clear hBS
  go_wp2_with fail
  (try simp only [Exit.inBlock, Exit.then])
  have HN : Hid (newT s n = (0, [], 1)) := Lib.hid (by rw [HNT.out, HGD.out]; rfl)
  refine bodyPost_ret (v := .tuple #[.agg #[.int .u64 0, .slice none 0 0], .int .i64 1]) ?_ rfl ⟨⟨_, rfl, .slice none 0 0, by rw [HN.out]; rfl, by rw [HN.out]; exact RowO.nil _ _ _ (by decide)⟩, HB.out⟩
  exact results_twoT rfl _ _ g1 28 _ (0, 0) rfl HX1.out _ rfl Tryd.underlying28 (by kernel_rfl)
 ·go_upto_region 1 with fail
  refine wp_act (fun a0 ha0 => ?_)
  have zsz : a0.tmps.size = 14 := by rw [ha0]; rfl
  have z1 : a0.eval (.tmp 1) = .int .i64 n := by rw [ha0]; rfl
  refine wrO [] slotsnewT1f waitnewT1f [Fct.val Flz 0 (.int .i64 n), Fct.val Flz 1 (.bool true), Fct.val Flz 2 (.bool false)] (fun w' => Below w1.heap.size w1 w') _ 3 0 chknewT1f (by kernel_rfl) (by kernel_rfl) (by kernel_rfl) (by decide) (Below.refl _ _) ?_ ?_
  ·refine lt_s (lt_s (lt_s (lt_0) ?_) ?_) ?_
   ·intro f w1 hS hf aA hA
    have r1 := qO 1 hA z1
    exact fV rfl rfl _ (ex_move (.tmp 1) rfl r1) hS uS
   ·intro f w1 hS hf aA hA
    have r6 := qA 6 0 hA sbnewT1f zsz (hf 0 (by decide))
    exact fC rfl rfl 31 #[(.tmp 6)] _ rfl #[.int .i64 n] (mp1 r6) (fun w => by kernel_rfl) _ (as_any (good14_any n w1) (congrArg Value.bool HGD.out)) hS (fun _ _ h => uS.trans h)
   ·intro f w1 hS hf aA hA
    have r7 := qA 7 1 hA sbnewT1f zsz (hf 1 (by decide))
    exact fV rfl rfl _ (ex_not _ (.tmp 7) rfl r7) hS uS
  intro f u1 hS hf hap
  have h0 := eqL (hf 0 (by decide)) rfl
  have h1 := eqL (hf 1 (by decide)) rfl
  have h2 := eqL (hf 2 (by decide)) rfl
  clear hf hap
  clear zsz z1
  subst ha0
  simp only [slotsnewT1f, putAll, h0, h1, h2, Act.put, List.setIfInBounds_toArray, List.set_cons_zero, List.set_cons_succ]
  clear h0 h1 h2
  refine tl_nil ?_
  replace HX1 := Lib.hid (HX1.out.keepB hS)
  replace HB := Lib.hid (HB.out.trans (hS.mono HB.out.size))
  clear hS
  obtain ⟨m, hm, hm3, hm4⟩ := good_int HGD.out
  have HM := Lib.hid hm
  have HM4 := Lib.hid hm4
  clear hm hm3 hm4
  have HBU : Hid (b0 ≤ u1.heap.size) := Lib.hid (Nat.le_trans HB1.out (Nat.le_of_lt HX1.out.lt))
  go_upto_region 3 with fail
  refine wp_act (fun a0 ha0 => ?_)
  have zsz : a0.tmps.size = 14 := by rw [ha0]; rfl
  have z0 : a0.eval (.tmp 0) = .int .u64 (s : Int) := by rw [ha0]; rfl
  have z1 : a0.eval (.tmp 1) = .int .i64 n := by rw [ha0]; rfl
  refine wrO [] slotsnewT3t waitnewT3t [Fct.val Flz 0 (.int .u64 (s : Int)), Fct.val Flz 1 (.int .i64 n), Fct.obj 2 (fun v w => ∃ x, v = x ∧ RowO u1.heap.size 47 w x (List.replicate m zC)) (fun _ _ _ ⟨x, a, b⟩ he => ⟨x, a, b.flz he⟩), Fct.obj 3 (fun v w => ∃ x, v = .agg #[.int .u64 (s : Int), x] ∧ RowO u1.heap.size 47 w x (List.replicate m zC)) (fun _ _ _ ⟨x, a, b⟩ he => ⟨x, a, b.flz he⟩)] (fun w' => Below u1.heap.size u1 w') _ 4 2 chknewT3t (by kernel_rfl) (by kernel_rfl) (by kernel_rfl) (by decide) (Below.refl _ _) ?_ ?_
  ·refine lt_s (lt_s (lt_s (lt_s (lt_0) ?_) ?_) ?_) ?_
   ·intro f w1 hS hf aA hA
    have r0 := qO 0 hA z0
    exact fV rfl rfl _ (ex_move (.tmp 0) rfl r0) hS uS
   ·intro f w1 hS hf aA hA
    have r1 := qO 1 hA z1
    exact fV rfl rfl _ (ex_move (.tmp 1) rfl r1) hS uS
   ·intro f w1 hS hf aA hA
    have r11 := qA 11 1 hA sbnewT3t zsz (hf 1 (by decide))
    exact flw_wp rfl rfl (fun K hK => wp_make_ce 26 47 elC (.tmp 11) (.tmp 11) rfl m (Nat.le_trans HM4.out (by decide)) (r11.trans (by rw [HM.out])) (r11.trans (by rw [HM.out])) (fun w' h1 h2 => hK _ _ (hS.trans (h2.mono hS.size)) (Flz.of h2) ⟨_, uS, h1.less hS.size⟩))
   ·intro f w1 hS hf aA hA
    have r10 := qA 10 0 hA sbnewT3t zsz (hf 0 (by decide))
    obtain ⟨x12, hx12, hr12⟩ := hf 2 (by decide)
    have e12 := pA 12 2 hA sbnewT3t (by kernel_rfl) zsz rfl hx12
    exact flw_val rfl rfl (.agg #[.int .u64 (s : Int), x12]) (ex_build 28 _ rfl #[.int .u64 (s : Int), x12] [(0, .int .u64 (s : Int)), (1, x12)] (by simp only [List.map_toArray, List.map_cons, List.map_nil, r10, e12]) (builtTs _ hr12.sl)) hS (Flz.refl _) ⟨x12, uS, hr12⟩
  intro f u2 hS hf hap
  have h0 := eqL (hf 0 (by decide)) rfl
  have h1 := eqL (hf 1 (by decide)) rfl
  obtain ⟨v3_2, h2, hu2⟩ := hf 2 (by decide)
  have HU3_2 := Lib.hid hu2
  clear hu2
  obtain ⟨v3_3, h3, hu3⟩ := hf 3 (by decide)
  have HU3_3 := Lib.hid hu3
  clear hu3
  clear hf hap
  clear zsz z0 z1
  subst ha0
  simp only [slotsnewT3t, putAll, h0, h1, h2, h3, Act.put, List.setIfInBounds_toArray, List.set_cons_zero, List.set_cons_succ]
  clear h0 h1 h2 h3
  have hBS := HB.out.trans (hS.mono HB.out.size)
  replace HX1 := Lib.hid (HX1.out.keepB hS)
  clear hS
  refine tl_store rfl (by kernel_rfl) 28 (.tmp 4) (.tmp 13) rfl g1 ([.int .u64 (s : Int), v3_3]) _ rfl rfl _ HX1.out (by kernel_rfl) rfl (tb_ones _ HU3_3.out.one) ?_
  intro u3 hp hbl hot
  replace HU3_2 := Lib.hid (HU3_2.out.hotb HX1.out ⟨_, _, _, rfl⟩ (by decide) (hbl 0 (Nat.zero_le _)).size hot)
  replace HU3_3 := Lib.hid (HU3_3.out.hotb HX1.out ⟨_, _, _, rfl⟩ (by decide) (hbl 0 (Nat.zero_le _)).size hot)
  replace HX1 : Hid (Has u3 g1 28 ([.int .u64 (s : Int), v3_3])) := Lib.hid hp
  replace hBS := hBS.trans (hbl _ HGg1.out)
  clear hp hbl hot
  try simp only [Act.put]
  refine tl_pure rfl (by kernel_rfl) (.int .i64 0) (ex_assign _ rfl rfl) ?_
  try simp only [Act.put, List.setIfInBounds_toArray, List.set_cons_zero, List.set_cons_succ]
  refine tl_nil ?_
  replace HB := Lib.hid hBS
  clear hBS
  go_wp2_with fail
  (try simp only [Exit.inBlock, Exit.then])
  have HN : Hid (newT s n = (s, List.replicate m zC, 0)) := Lib.hid (by rw [HNT.out, HGD.out, HM.out]; rfl)
  refine bodyPost_ret (v := .tuple #[.agg #[.int .u64 (s : Int), v3_3], .int .i64 0]) ?_ rfl ⟨⟨_, rfl, v3_3, by rw [HN.out], by rw [HN.out]; exact HU3_3.out.less HBU.out⟩, HB.out⟩
  exact results_twoT rfl _ _ g1 28 _ (0, 0) rfl HX1.out _ rfl Tryd.underlying28 (by kernel_rfl)
theorem newT_any (s : Nat) (n : Int) (w : World) : Calls Tryd.prog 10 #[.int .u64 (s : Int), .int .i64 n] w fun e w' => (∃ v, e = .returned v ∧ ∃ x, v = .tuple #[.agg #[.int .u64 ((newT s n).1 : Int), x], .int .i64 (newT s n).2.2] ∧ RowO w.heap.size 47 w' x (newT s n).2.1) ∧ Below w.heap.size w w' := newT_b s n w w (Below.refl _ _)
end Go.Proofs.YtnkcehmgagpadaaDoor
/- Contracts: slices.Clone over cells; package table's change, with, Put, Take. Conditions: the sums' tables are laid; a seed of 64 bits; at most 10^5 cells. -/
namespace Go.Proofs.YtnkcehmgagpadaaDoor
open Go.RowKit
theorem byPut : ByF 33 putC := ⟨fun _ _ _ => by kernel_rfl, fun c x w hL => put_any c x w hL⟩
theorem byTake : ByF 36 takeC := ⟨fun _ _ _ => by kernel_rfl, fun c x w hL => take_any c x w hL⟩
set_option maxHeartbeats 4000000 in
set_option maxRecDepth 100000 in
theorem cloneC_any (v : Value) (L : List Ce) (hm : L.length ≤ 1000000) (w : World) (hC : Cs w v L) :
  Calls Tryd.prog 48 #[v] w fun e w' => (∃ v, e = .returned v ∧ RowO w.heap.size 47 w' v L) ∧ Below w.heap.size w w' := by
 obtain ⟨q, c, rfl, hc, hqc, hs⟩ := hC
 have HS := Lib.hid (show Cs w (.slice q L.length c) L from ⟨q, c, rfl, hc, hqc, hs⟩)
 have HS2 := Lib.hid hs
 clear hs
 have hq := fun w a n c n' c' => Lib.run_eql_slice_nil (P := Tryd.prog) w 26 47 a n c n' c' elC.1
 rcases q with _ | a
 ·have h0 : L = [] := by
   rcases L with _ | ⟨y, L⟩
   ·rfl
   ·obtain ⟨a, h1, _⟩ := HS2.out.get (by rw [rowC_len, List.length_cons]; omega)
    cases h1
  subst h0
  go_enter Tryd.func48, Tryd.ntmps48
  go_wp2_with fail
  go_ret
  exact ⟨⟨_, rfl, RowO.nil _ _ _ (by decide)⟩, Below.refl _ _⟩
 ·have HN := Lib.hid (run_none_ce 26 47 elC w)
  have HO := Lib.hid (RowO.empty w w.heap.size 47 (by decide) (Nat.le_refl _))
  have HB := Lib.hid ((Below.refl w.heap.size w).alloc (Nat.le_refl _) (.cells #[] 47))
  have hrn := HN.out
  go_enter Tryd.func48, Tryd.ntmps48
  go_wp2_with (refine wpList_plain rfl (fun K hK => wp_append_ce 26 47 elC (.tmp 5) (.tmp 6) rfl w.heap.size _ [] rfl HO.out _ L rfl (HS.out.keep HB.out) (by simpa using hm) (by simp) ?_); intro v3 w3 h1 h2; have HO3 := Lib.hid h1; have HB3 := Lib.hid (HB.out.grown h2 (by simp) (fun k hk => by cases hk; exact Nat.le_refl _)); clear h1 h2; refine hK _ _ ?_)
  go_ret
  exact ⟨⟨_, rfl, by simpa using HO3.out⟩, HB3.out⟩
theorem cloneC_in (v : Value) (L : List Ce) (hm : L.length ≤ 1000000) (w : World) (hC : Cs w v L) (b : Nat) (hb : b ≤ w.heap.size) :
  Calls Tryd.prog 48 #[v] w fun e w' => (∃ v, e = .returned v ∧ ∃ x, v = x ∧ RowO b 47 w' x L) ∧ Below w.heap.size w w' :=
 Calls.mono (cloneC_any v L hm w hC) fun _ _ ⟨⟨u, h1, h2⟩, h3⟩ => ⟨⟨u, h1, u, rfl, h2.less hb⟩, h3⟩
theorem placeOf_in (s : Nat) (hs : s < 18446744073709551616) (n : Int) (x : Su) (w : World) (hL : Laid w) (b : Nat) (hb : b ≤ w.heap.size) :
  Calls Tryd.prog 60 #[.int .u64 (s : Nat), .int .i64 n, .agg (encU x).toArray] w fun e w' => (∃ v, e = .returned v ∧ ∃ x', v = x' ∧ InsF b w' x' (places s n x)) ∧ Below w.heap.size w w' :=
 Calls.mono (placeOf_any s hs n x w hL) fun _ _ ⟨⟨u, h1, h2⟩, h3⟩ => ⟨⟨u, h1, u, rfl, h2.less hb⟩, h3⟩
def waitTch1 (i : Nat) : List Nat := ([[], [0], [], [2], [3], [], [1, 4, 5], [6], []] : List (List Nat)).getD i []
def slotsTch1 : List (Nat × Nat) := [(8, 0), (9, 1), (10, 2), (11, 3), (12, 4), (13, 5), (14, 6), (15, 7), (16, 8)]
theorem sbTch1 : slotsB slotsTch1 = true := by kernel_rfl
theorem chkTch1 : flwO slotsTch1 waitTch1 9 (regOf Tryd.f32.body 1) = true := by kernel_rfl
def waitTch3 (i : Nat) : List Nat := ([[], [0], [1]] : List (List Nat)).getD i []
def slotsTch3 : List (Nat × Nat) := [(18, 0), (19, 1), (7, 2)]
theorem sbTch3 : slotsB slotsTch3 = true := by kernel_rfl
theorem chkTch3 : flwO slotsTch3 waitTch3 3 (regOf Tryd.f32.body 3) = true := by kernel_rfl
def waitTch4 (i : Nat) : List Nat := ([[], [0], [], [], [], [4], [], [5, 6], [7], [], [3, 8, 9], [1, 2], [0, 1, 2, 3, 4, 5, 6, 7, 8, 9, 10, 11]] : List (List Nat)).getD i []
def slotsTch4 : List (Nat × Nat) := [(20, 0), (21, 1), (22, 2), (23, 3), (24, 4), (25, 5), (26, 6), (27, 7), (28, 8), (29, 9), (30, 10), (31, 11)]
theorem sbTch4 : slotsB slotsTch4 = true := by kernel_rfl
theorem chkTch4 : flwB slotsTch4 waitTch4 12 (regOf Tryd.f32.body 4) = true := by kernel_rfl
set_option maxHeartbeats 16000000 in
set_option maxRecDepth 100000 in
theorem change_b (s : Nat) (hs : s < 18446744073709551616) (x : Su) (v : Value) (L : List Ce) (gF : FuncId) (fo : Ce → Su → Ce) (hF : ByF gF fo) (base : Nat) (w w0 : World) (hB : Below w.heap.size w w0) (hL : Laid w) (hO : RowO base 47 w0 v L) (hb : w.heap.size ≤ base) :
  Calls Tryd.prog 32 #[.agg #[.int .u64 (s : Int), v], .agg (encU x).toArray, .func (.func gF) #[] #[]] w0 fun e w' => (∃ u, e = .returned u) ∧ RowO base 47 w' v (layT fo s x L) ∧ Below w.heap.size w w' ∧ Grw w0 w' v.ownBlock := by
 have HB := Lib.hid hB
 have HL := Lib.hid hL
 have HSZ := Lib.hid hL.size
 have HSD := Lib.hid hs
 have HO := Lib.hid hO
 have HBY := Lib.hid hF
 have HBB := Lib.hid hb
 have HGR : Hid (Grw w0 w0 v.ownBlock) := Lib.hid (Grw.refl _ _)
 have HGL : Hid (∀ k, Value.ownBlock v = some k → k < w0.heap.size) := Lib.hid hO.lt
 obtain ⟨z, hz⟩ : ∃ z, z = w0 := ⟨_, rfl⟩
 rw [show (Grw w0 : World → Option Nat → Prop) = Grw z by rw [hz]] at HGR ⊢
 clear hB hL hs hO hF hb hz
 go_enter Tryd.func32, Tryd.ntmps32
 go_upto_region 0 with fail
 refine wp_region_lit ?_
 try simp only [Act.put, List.setIfInBounds_toArray, List.set_cons_zero, List.set_cons_succ]
 refine lp_step rfl (fun K hK => wp_box_row 28 (.tmp 0) rfl (.agg #[.int .u64 (s : Int), v]) rfl (hK _ _ ?_))
 try simp only [Act.put, List.setIfInBounds_toArray, List.set_cons_zero, List.set_cons_succ]
 show wpList _ _ _ _ _ (w0.alloc (.cells (([.int .u64 (s : Int), v] : List Value)).toArray 28))
 have HST : Hid (Below w0.heap.size w0 (w0.alloc (.cells (([.int .u64 (s : Int), v] : List Value)).toArray 28))) := Lib.hid ((Below.refl _ _).alloc (Nat.le_refl _) _)
 have HX1 : Hid (Has (w0.alloc (.cells (([.int .u64 (s : Int), v] : List Value)).toArray 28)) w0.heap.size 28 ([.int .u64 (s : Int), v])) := Lib.hid (Has.made' _ _ _ _ rfl)
 replace HO := Lib.hid (HO.out.keep HST.out)
 replace HGR := Lib.hid (HGR.out.bel HST.out)
 have HGg1 : Hid (w.heap.size ≤ w0.heap.size) := Lib.hid HB.out.size
 replace HB := Lib.hid (HB.out.trans (HST.out.mono HB.out.size))
 clear HST
 generalize w0.alloc (.cells (([.int .u64 (s : Int), v] : List Value)).toArray 28) = w1 at *
 generalize w0.heap.size = g1 at *
 refine lp_step rfl (fun K hK => wp_box_row 42 (.tmp 1) rfl (.agg (encU x).toArray) rfl (hK _ _ ?_))
 try simp only [Act.put, List.setIfInBounds_toArray, List.set_cons_zero, List.set_cons_succ]
 show wpList _ _ _ _ _ (w1.alloc (.cells (encU x).toArray 42))
 have HST : Hid (Below w1.heap.size w1 (w1.alloc (.cells (encU x).toArray 42))) := Lib.hid ((Below.refl _ _).alloc (Nat.le_refl _) _)
 have HLT_g1_g2 : Hid (g1 < w1.heap.size) := Lib.hid HX1.out.lt
 have HNE_g1_g2 : Hid (g1 ≠ w1.heap.size) := Lib.hid (Nat.ne_of_lt HX1.out.lt)
 have HX2 : Hid (Has (w1.alloc (.cells (encU x).toArray 42)) w1.heap.size 42 (encU x)) := Lib.hid (Has.made' _ _ _ _ rfl)
 replace HO := Lib.hid (HO.out.keep HST.out)
 replace HGR := Lib.hid (HGR.out.bel HST.out)
 replace HX1 := Lib.hid (HX1.out.keepB HST.out)
 have HGg2 : Hid (w.heap.size ≤ w1.heap.size) := Lib.hid HB.out.size
 replace HB := Lib.hid (HB.out.trans (HST.out.mono HB.out.size))
 clear HST
 generalize w1.alloc (.cells (encU x).toArray 42) = w2 at *
 generalize w1.heap.size = g2 at *
 refine wpList_nil ?_
 have HG2 : Hid (g2 < w2.heap.size) := Lib.hid HX2.out.lt
 go_upto_region 1 with fail
 refine wp_act (fun a0 ha0 => ?_)
 have zsz : a0.tmps.size = 33 := by rw [ha0]; rfl
 have z3 : a0.eval (.tmp 3) = .pointer (some ⟨g1, 0, none⟩) := by rw [ha0]; rfl
 have z4 : a0.eval (.tmp 4) = .pointer (some ⟨g2, 0, none⟩) := by rw [ha0]; rfl
 refine wrO [] slotsTch1 waitTch1 [Fct.val Flz 0 (.pointer (some ⟨g1, 0, none⟩)), Fct.val Flz 1 (.int .u64 (s : Int)), Fct.val Flz 2 (.pointer (some ⟨g1, 1, none⟩)), Fct.val Flz 3 (v), Fct.val Flz 4 (.int .i64 (((L).length : Int))), Fct.val Flz 5 (.agg (encU x).toArray), Fct.obj 6 (fun v w => ∃ zz, v = zz ∧ InsF w2.heap.size w zz (places s (((L).length : Int)) x)) (fun _ _ _ ⟨zz, a, b⟩ he => ⟨zz, a, b.flz he⟩), Fct.val Flz 7 (.int .i64 (((places s (((L).length : Int)) x).length : Int))), Fct.val Flz 8 (.int .i64 0)] (fun w' => Below w2.heap.size w2 w') _ 9 0 chkTch1 (by kernel_rfl) (by kernel_rfl) (by kernel_rfl) (by decide) (Below.refl _ _) ?_ ?_
 ·refine lt_s (lt_s (lt_s (lt_s (lt_s (lt_s (lt_s (lt_s (lt_s (lt_0) ?_) ?_) ?_) ?_) ?_) ?_) ?_) ?_) ?_
  ·intro f w1 hS hf aA hA
   have r3 := qO 3 hA z3
   exact fV rfl rfl _ (fldT0 28 (Or.inl rfl) (.tmp 3) rfl g1 r3) hS uS
  ·intro f w1 hS hf aA hA
   have r8 := qA 8 0 hA sbTch1 zsz (hf 0 (by decide))
   exact fV rfl rfl _ (ex_load1 25 (.tmp 8) rfl ⟨g1, 0, none⟩ r8 (fun _ => by kernel_rfl) ((HX1.out.keepB hS).cellv rfl)) hS uS
  ·intro f w1 hS hf aA hA
   have r3 := qO 3 hA z3
   exact fV rfl rfl _ (fldT1 28 (Or.inl rfl) (.tmp 3) rfl g1 r3) hS uS
  ·intro f w1 hS hf aA hA
   have r10 := qA 10 2 hA sbTch1 zsz (hf 2 (by decide))
   exact fV rfl rfl _ (ex_load1 26 (.tmp 10) rfl ⟨g1, 1, none⟩ r10 (fun _ => by kernel_rfl) ((HX1.out.keepB hS).cellv rfl)) hS uS
  ·intro f w1 hS hf aA hA
   have r11 := qA 11 3 hA sbTch1 zsz (hf 3 (by decide))
   obtain ⟨q9, c9, hv9, _⟩ := (HO.out.keep hS).cs
   exact fV rfl rfl _ (ex_len 26 47 (.tmp 11) rfl (by kernel_rfl) q9 (L).length c9 (r11.trans hv9)) hS uS
  ·intro f w1 hS hf aA hA
   have r4 := qO 4 hA z4
   exact fV rfl rfl _ (ex_loadR 42 (.tmp 4) rfl ⟨g2, 0, none⟩ r4 (fun _ => by kernel_rfl) (encU x) (by rw [encU_len]; kernel_rfl) ((HX2.out.keepB hS).part (encU x) 0 (encU_all' x))) hS uS
  ·intro f w1 hS hf aA hA
   have r9 := qA 9 1 hA sbTch1 zsz (hf 1 (by decide))
   have r12 := qA 12 4 hA sbTch1 zsz (hf 4 (by decide))
   have r13 := qA 13 5 hA sbTch1 zsz (hf 5 (by decide))
   exact fC rfl rfl 60 #[(.tmp 9), (.tmp 12), (.tmp 13)] _ rfl #[.int .u64 (s : Int), .int .i64 (((L).length : Int)), .agg (encU x).toArray] (mp3 r9 r12 r13) (fun w => by kernel_rfl) _ (placeOf_in s HSD.out (((L).length : Int)) x w1 (HL.out.keep (HB.out.trans (hS.mono HB.out.size)) HSZ.out) w2.heap.size hS.size) hS (fun _ _ ⟨zz, a, b⟩ => ⟨zz, uS.trans a, b⟩)
  ·intro f w1 hS hf aA hA
   obtain ⟨x14, hx14, hr14⟩ := hf 6 (by decide)
   have e14 := pA 14 6 hA sbTch1 (by kernel_rfl) zsz rfl hx14
   obtain ⟨q9, c9, hv9, _⟩ := hr14.len
   exact fV rfl rfl _ (ex_len 38 3 (.tmp 14) rfl (by kernel_rfl) q9 (places s (((L).length : Int)) x).length c9 (e14.trans hv9)) hS uS
  ·intro f w1 hS hf aA hA
   exact fV rfl rfl (.int .i64 0) (ex_move _ rfl rfl) hS uS
 intro f u1 hS hf hap
 have h0 := eqL (hf 0 (by decide)) rfl
 have h1 := eqL (hf 1 (by decide)) rfl
 have h2 := eqL (hf 2 (by decide)) rfl
 have h3 : f 3 = v := hf 3 (by decide)
 have h4 := eqL (hf 4 (by decide)) rfl
 have h5 := eqL (hf 5 (by decide)) rfl
 obtain ⟨v1_6, h6, hu6⟩ := hf 6 (by decide)
 have HU1_6 := Lib.hid hu6
 clear hu6
 have h7 := eqL (hf 7 (by decide)) rfl
 have h8 := eqL (hf 8 (by decide)) rfl
 clear hf hap
 clear zsz z3 z4
 subst ha0
 simp only [slotsTch1, putAll, h0, h1, h2, h3, h4, h5, h6, h7, h8, Act.put, List.setIfInBounds_toArray, List.set_cons_zero, List.set_cons_succ]
 clear h0 h1 h2 h3 h4 h5 h6 h7 h8
 refine tl_nil ?_
 replace HO := Lib.hid (HO.out.keep hS)
 replace HGR := Lib.hid (HGR.out.bel hS)
 replace HX1 := Lib.hid (HX1.out.keepB hS)
 replace HX2 := Lib.hid (HX2.out.keepB hS)
 replace HB := Lib.hid (HB.out.trans (hS.mono HB.out.size))
 clear hS
 have HPL : Hid (∀ i (h : i < (places s (L.length : Int) x).length), ∃ k : Nat, (places s (L.length : Int) x)[i] = (k : Int) ∧ k < L.length) := Lib.hid (fun i h => place_lt h)
 have HALL : Hid (layTo fo (places s (L.length : Int) x) x L (places s (L.length : Int) x).length = layT fo s x L) := Lib.hid (layTo_all fo s x L)
 have hPLn : (places s (L.length : Int) x).length ≤ 3 := by unfold places; split <;> simp
 generalize places s (L.length : Int) x = PL at *
 go_wp2_with fail
 go_loopw [16] (fun vi wr => ∃ i : Nat, i ≤ PL.length ∧ vi = .int .i64 i ∧ RowO base 47 wr v (layTo fo PL x L i) ∧ Grw z wr v.ownBlock ∧ Has wr g1 28 [.int .u64 (s : Int), v] ∧ Has wr g2 42 (encU x) ∧ InsF w2.heap.size wr v1_6 PL ∧ Below w.heap.size w wr) (fun vi _ => PL.length - (intOf vi).toNat)
 case atStart => exact ⟨0, by omega, rfl, HO.out, HGR.out, HX1.out, HX2.out, HU1_6.out, HB.out⟩
 case round =>
  clear HO HGR HX1 HX2 HU1_6 HB
  rename_i wr
  obtain ⟨i, hi, rfl, ho, hgr, hx1, hx2, hn, hB⟩ := hrel
  have HO := Lib.hid ho
  have HGR := Lib.hid hgr
  have HX1 := Lib.hid hx1
  have HX2 := Lib.hid hx2
  have HN := Lib.hid hn
  have HB := Lib.hid hB
  clear ho hgr hx1 hx2 hn hB
  by_cases hlt : i < PL.length
  ·obtain ⟨k, hpk, hkL⟩ := HPL.out i hlt
   have hkl : k < (layTo fo PL x L i).length := by rw [layTo_len]; exact hkL
   have HNX : Hid (layTo fo PL x L (i + 1) = (layTo fo PL x L i).set k (fo (layTo fo PL x L i)[k] x)) := Lib.hid (layTo_succ fo PL x L i hlt k hpk hkl)
   obtain ⟨pa, pc, hpv, hcell⟩ := HN.out.el hlt
   rw [hpk] at hcell
   have HCL := Lib.hid hcell
   have HPV := Lib.hid hpv
   have k3 : (i : Int) < (PL.length : Int) := by omega
   clear hcell hpv hpk
   go_upto_region 3 with fail
   refine wp_act (fun a0 ha0 => ?_)
   have zsz : a0.tmps.size = 33 := by rw [ha0]; rfl
   have z14 : a0.eval (.tmp 14) = v1_6 := by rw [ha0]; rfl
   have z16 : a0.eval (.tmp 16) = .int .i64 ((i : Int)) := by rw [ha0]; rfl
   refine wrO [] slotsTch3 waitTch3 [Fct.val Flz 0 (.pointer (some (pa.add (i * 1)))), Fct.val Flz 1 (.int .i64 ((k : Int))), Fct.val Flz 2 (.int .i64 ((k : Int)))] (fun w' => Below wr.heap.size wr w') _ 3 0 chkTch3 (by kernel_rfl) (by kernel_rfl) (by kernel_rfl) (by decide) (Below.refl _ _) ?_ ?_
   ·refine lt_s (lt_s (lt_s (lt_0) ?_) ?_) ?_
    ·intro f w1 hS hf aA hA
     have r14 := qO 14 hA z14
     have r16 := qO 16 hA z16
     exact fV rfl rfl _ (ex_indexS 38 3 (.tmp 14) (.tmp 16) rfl pa PL.length pc i 1 (by kernel_rfl) (fun _ => by kernel_rfl) (Eq.trans r14 HPV.out) r16 hlt) hS uS
    ·intro f w1 hS hf aA hA
     have r18 := qA 18 0 hA sbTch3 zsz (hf 0 (by decide))
     exact fV rfl rfl _ (ex_load1 3 (.tmp 18) rfl (pa.add (i * 1)) r18 (fun _ => by kernel_rfl) (HCL.out w1 hS.block)) hS uS
    ·intro f w1 hS hf aA hA
     have r19 := qA 19 1 hA sbTch3 zsz (hf 1 (by decide))
     exact fV rfl rfl _ (ex_assign (.tmp 19) rfl r19) hS uS
   intro f u3 hS hf hap
   have h0 := eqL (hf 0 (by decide)) rfl
   have h1 := eqL (hf 1 (by decide)) rfl
   have h2 := eqL (hf 2 (by decide)) rfl
   clear hf hap
   clear zsz z14 z16
   subst ha0
   simp only [slotsTch3, putAll, h0, h1, h2, Act.put, List.setIfInBounds_toArray, List.set_cons_zero, List.set_cons_succ]
   clear h0 h1 h2
   refine tl_nil ?_
   replace HO := Lib.hid (HO.out.keep hS)
   replace HGR := Lib.hid (HGR.out.bel hS)
   replace HX1 := Lib.hid (HX1.out.keepB hS)
   replace HX2 := Lib.hid (HX2.out.keepB hS)
   replace HN := Lib.hid (HN.out.keep hS)
   replace HB := Lib.hid (HB.out.trans (hS.mono HB.out.size))
   clear hS
   go_upto_region 4 with fail
   have HST : Hid (Below u3.heap.size u3 u3.drew) := Lib.hid (Below.refl _ _).drew
   replace HO := Lib.hid (HO.out.keep HST.out)
   replace HGR := Lib.hid (HGR.out.bel HST.out)
   replace HX1 := Lib.hid (HX1.out.keepB HST.out)
   replace HX2 := Lib.hid (HX2.out.keepB HST.out)
   replace HN := Lib.hid (HN.out.keep HST.out)
   replace HB := Lib.hid (HB.out.trans (HST.out.mono HB.out.size))
   clear HST
   obtain ⟨gg, cap, hgv, hgb, hgl, hel⟩ := HO.out.el hkl
   have HGV := Lib.hid hgv
   have HGB := Lib.hid hgb
   have HEL := Lib.hid hel
   clear hgv hgb hgl hel
   refine wp_act (fun a0 ha0 => ?_)
   have zsz : a0.tmps.size = 33 := by rw [ha0]; rfl
   have z3 : a0.eval (.tmp 3) = .pointer (some ⟨g1, 0, none⟩) := by rw [ha0]; rfl
   have z7 : a0.eval (.tmp 7) = .int .i64 ((k : Int)) := by rw [ha0]; rfl
   have z2 : a0.eval (.tmp 2) = .func (.func gF) #[] #[] := by rw [ha0]; rfl
   have z4 : a0.eval (.tmp 4) = .pointer (some ⟨g2, 0, none⟩) := by rw [ha0]; rfl
   refine wrD [] slotsTch4 waitTch4 [Fct.val Flz 0 (.pointer (some ⟨g1, 1, none⟩)), Fct.val Flz 1 (v), Fct.val Flz 2 (.int .i64 ((k : Int))), Fct.val Flz 3 (.func (.func gF) #[] #[]), Fct.val Flz 4 (.pointer (some ⟨g1, 1, none⟩)), Fct.val Flz 5 (v), Fct.val Flz 6 (.int .i64 ((k : Int))), Fct.val Flz 7 (.pointer (some ((⟨gg, 0, none⟩ : Addr).add (k * 65)))), Fct.val Flz 8 (aggC (((layTo fo PL x L i)[k]))), Fct.val Flz 9 (.agg (encU x).toArray), Fct.val Flz 10 (aggC (fo (((layTo fo PL x L i)[k])) x)), Fct.val Flz 11 (.pointer (some ((⟨gg, 0, none⟩ : Addr).add (k * 65))))] (fun w' => Below u3.drew.heap.size u3.drew w') _ 12 1 chkTch4 (by kernel_rfl) (by kernel_rfl) (by kernel_rfl) (by kernel_rfl) (by decide) (Below.refl _ _) ?_ ?_
   ·refine lt_s (lt_s (lt_s (lt_s (lt_s (lt_s (lt_s (lt_s (lt_s (lt_s (lt_s (lt_s (lt_0) ?_) ?_) ?_) ?_) ?_) ?_) ?_) ?_) ?_) ?_) ?_) ?_
    ·intro f w1 hS hf aA hA
     have r3 := qO 3 hA z3
     exact fV rfl rfl _ (fldT1 28 (Or.inl rfl) (.tmp 3) rfl g1 r3) hS uS
    ·intro f w1 hS hf aA hA
     have r20 := qA 20 0 hA sbTch4 zsz (hf 0 (by decide))
     exact fV rfl rfl _ (ex_load1 26 (.tmp 20) rfl ⟨g1, 1, none⟩ r20 (fun _ => by kernel_rfl) ((HX1.out.keepB hS).cellv rfl)) hS uS
    ·intro f w1 hS hf aA hA
     have r7 := qO 7 hA z7
     exact fV rfl rfl _ (ex_move (.tmp 7) rfl r7) hS uS
    ·intro f w1 hS hf aA hA
     have r2 := qO 2 hA z2
     exact fV rfl rfl _ (ex_move (.tmp 2) rfl r2) hS uS
    ·intro f w1 hS hf aA hA
     have r3 := qO 3 hA z3
     exact fV rfl rfl _ (fldT1 28 (Or.inl rfl) (.tmp 3) rfl g1 r3) hS uS
    ·intro f w1 hS hf aA hA
     have r24 := qA 24 4 hA sbTch4 zsz (hf 4 (by decide))
     exact fV rfl rfl _ (ex_load1 26 (.tmp 24) rfl ⟨g1, 1, none⟩ r24 (fun _ => by kernel_rfl) ((HX1.out.keepB hS).cellv rfl)) hS uS
    ·intro f w1 hS hf aA hA
     have r7 := qO 7 hA z7
     exact fV rfl rfl _ (ex_move (.tmp 7) rfl r7) hS uS
    ·intro f w1 hS hf aA hA
     have r25 := qA 25 5 hA sbTch4 zsz (hf 5 (by decide))
     have r26 := qA 26 6 hA sbTch4 zsz (hf 6 (by decide))
     exact fV rfl rfl _ (ex_indexS 26 47 (.tmp 25) (.tmp 26) rfl (⟨gg, 0, none⟩ : Addr) (layTo fo PL x L i).length cap k 65 (by kernel_rfl) (fun _ => by kernel_rfl) (Eq.trans r25 HGV.out) r26 hkl) hS uS
    ·intro f w1 hS hf aA hA
     have r27 := qA 27 7 hA sbTch4 zsz (hf 7 (by decide))
     exact fV rfl rfl _ (ex_loadR 47 (.tmp 27) rfl ((⟨gg, 0, none⟩ : Addr).add (k * 65)) r27 (fun _ => by kernel_rfl) (encC (((layTo fo PL x L i)[k]))) (by rw [encC_len]; kernel_rfl) (HEL.out w1 hS.block)) hS uS
    ·intro f w1 hS hf aA hA
     have r4 := qO 4 hA z4
     exact fV rfl rfl _ (ex_loadR 42 (.tmp 4) rfl ⟨g2, 0, none⟩ r4 (fun _ => by kernel_rfl) (encU x) (by rw [encU_len]; kernel_rfl) ((HX2.out.keepB hS).part (encU x) 0 (encU_all' x))) hS uS
    ·intro f w1 hS hf aA hA
     have r23 := qA 23 3 hA sbTch4 zsz (hf 3 (by decide))
     have r28 := qA 28 8 hA sbTch4 zsz (hf 8 (by decide))
     have r29 := qA 29 9 hA sbTch4 zsz (hf 9 (by decide))
     exact flw_callV rfl rfl gF (.tmp 23) r23 #[(.tmp 28), (.tmp 29)] _ rfl #[aggC (((layTo fo PL x L i)[k])), .agg (encU x).toArray] (mp2 r28 r29) (HBY.out.enter _ _) (fun v _ => v = aggC (fo (((layTo fo PL x L i)[k])) x)) (HBY.out.call (((layTo fo PL x L i)[k])) x w1 (HL.out.keep (HB.out.trans (hS.mono HB.out.size)) HSZ.out)) (fun v w' hr hb => ⟨hS.trans (hb.mono hS.size), Flz.of hb, uS.trans hr⟩)
    ·intro f w1 hS hf aA hA
     have r21 := qA 21 1 hA sbTch4 zsz (hf 1 (by decide))
     have r22 := qA 22 2 hA sbTch4 zsz (hf 2 (by decide))
     exact fV rfl rfl _ (ex_indexS 26 47 (.tmp 21) (.tmp 22) rfl (⟨gg, 0, none⟩ : Addr) (layTo fo PL x L i).length cap k 65 (by kernel_rfl) (fun _ => by kernel_rfl) (Eq.trans r21 HGV.out) r22 hkl) hS uS
   intro f u4 hS hf hap
   have h0 := eqL (hf 0 (by decide)) rfl
   have h1 : f 1 = v := hf 1 (by decide)
   have h2 := eqL (hf 2 (by decide)) rfl
   have h3 := eqL (hf 3 (by decide)) rfl
   have h4 := eqL (hf 4 (by decide)) rfl
   have h5 : f 5 = v := hf 5 (by decide)
   have h6 := eqL (hf 6 (by decide)) rfl
   have h7 := eqL (hf 7 (by decide)) rfl
   have h8 := eqL (hf 8 (by decide)) rfl
   have h9 := eqL (hf 9 (by decide)) rfl
   have h10 := eqL (hf 10 (by decide)) rfl
   have h11 := eqL (hf 11 (by decide)) rfl
   clear hf hap
   clear zsz z3 z7 z2 z4
   subst ha0
   simp only [slotsTch4, putAll, h0, h1, h2, h3, h4, h5, h6, h7, h8, h9, h10, h11, Act.put, List.setIfInBounds_toArray, List.set_cons_zero, List.set_cons_succ]
   clear h0 h1 h2 h3 h4 h5 h6 h7 h8 h9 h10 h11
   have HO4 := Lib.hid (HO.out.keep hS)
   have HX14 := Lib.hid (HX1.out.keepB hS)
   have HX24 := Lib.hid (HX2.out.keepB hS)
   have HN4 := Lib.hid (HN.out.keep hS)
   have HGR4 := Lib.hid (HGR.out.bel hS)
   have HB4 := Lib.hid (HB.out.trans (hS.mono HB.out.size))
   clear HO HX1 HX2 HN HGR HB hS
   have HOB : Hid (v.ownBlock = some gg) := Lib.hid (by rw [HGV.out]; rfl)
   have HGG : Hid (gg < g1) := Lib.hid (HGL.out gg HOB.out)
   have HGN := HLT_g1_g2
   refine tl_step rfl rfl (fun K hK => wp_store_ce 47 (by kernel_rfl) (.tmp 31) (.tmp 30) rfl base 47 v _ HO4.out gg cap k HGV.out hkl rfl _ rfl (fun w9 hR hbl hgr => hK _ _ ?_))
   have HO9 := Lib.hid hR
   have HG9 : Hid (u4.grownBy w9 (some gg)) := Lib.hid hgr
   have HB9 := Lib.hid (HB4.out.trans (hbl _ (Nat.le_trans HBB.out HGB.out)))
   clear hR hbl hgr
   refine tl_nilN ?_
   try simp only [Act.put]
   go_wp2_with fail
   go_roundw
   case rel =>
    refine ⟨i + 1, by omega, by go_num, by rw [HNX.out]; exact HO9.out, ?_, (HG9.out.block _ HX14.out.lt ?_).trans HX14.out, (HG9.out.block _ HX24.out.lt ?_).trans HX24.out, HN4.out.off HG9.out ?_, HB9.out⟩
    ·rw [HOB.out]; have := HGR4.out; rw [HOB.out] at this; exact this.tr HG9.out
    ·intro e; have := Option.some.inj e; have := HGG.out; omega
    ·intro e; have := Option.some.inj e; have := HGG.out; have := HGN.out; omega
    ·intro k hk; obtain rfl := Option.some.inj hk; have := HGG.out; have := HGN.out; have := HG2.out; omega
   case measure => simp [intOf]; omega
  ·obtain rfl : i = PL.length := by omega
   have k3 : ¬ (PL.length : Int) < (PL.length : Int) := by omega
   go_wp2_with fail
   go_end0
   exact ⟨⟨_, rfl⟩, by rw [← HALL.out]; exact HO.out, HB.out, HGR.out⟩
def waitTwf1 (i : Nat) : List Nat := ([[], [0], [1]] : List (List Nat)).getD i []
def slotsTwf1 : List (Nat × Nat) := [(7, 0), (8, 1), (9, 2)]
theorem sbTwf1 : slotsB slotsTwf1 = true := by kernel_rfl
theorem chkTwf1 : flwO slotsTwf1 waitTwf1 3 (regOf Tryd.f35.body 1) = true := by kernel_rfl
def waitTwf2 (i : Nat) : List Nat := ([[], [0]] : List (List Nat)).getD i []
def slotsTwf2 : List (Nat × Nat) := [(10, 0)]
theorem chkTwf2 : flwO slotsTwf2 waitTwf2 1 (regOf Tryd.f35.body 2) = true := by kernel_rfl
def waitTwt3 (i : Nat) : List Nat := ([[], [0], [1], [], [0, 1, 2, 3]] : List (List Nat)).getD i []
def slotsTwt3 : List (Nat × Nat) := [(11, 0), (12, 1), (13, 2), (14, 3)]
theorem sbTwt3 : slotsB slotsTwt3 = true := by kernel_rfl
theorem chkTwt3 : flwO slotsTwt3 waitTwt3 4 (regOf Tryd.f35.body 3) = true := by kernel_rfl
def waitTwt4 (i : Nat) : List Nat := ([[], [], [], [0, 1, 2]] : List (List Nat)).getD i []
def slotsTwt4 : List (Nat × Nat) := [(15, 0), (16, 1), (17, 2), (18, 3)]
theorem chkTwt4 : flwO slotsTwt4 waitTwt4 3 (regOf Tryd.f35.body 4) = true := by kernel_rfl
def waitTwt5 (i : Nat) : List Nat := ([[], [0]] : List (List Nat)).getD i []
def slotsTwt5 : List (Nat × Nat) := [(19, 0)]
theorem chkTwt5 : flwO slotsTwt5 waitTwt5 1 (regOf Tryd.f35.body 5) = true := by kernel_rfl
set_option maxHeartbeats 16000000 in
set_option maxRecDepth 100000 in
theorem withT_b (s : Nat) (y : Su) (v : Value) (L : List Ce) (gF : FuncId) (fo : Ce → Su → Ce) (w w0 : World) (hB : Below w.heap.size w w0) (hs : s < 18446744073709551616) (hF : ByF gF fo) (hL : Laid w) (hM : L.length ≤ 1000000) (hC : Cs w v L) : Calls Tryd.prog 35 #[.agg #[.int .u64 (s : Int), v], .agg (encU y).toArray, .func (.func gF) #[] #[]] w0 fun e w' => (∃ v, e = .returned v ∧ ∃ x, v = .agg #[.int .u64 (s : Int), x] ∧ Cs w' x (layT fo s y L)) ∧ Below w.heap.size w w' := by
 go_enter Tryd.func35, Tryd.ntmps35
 have HB := Lib.hid hB
 clear hB
 have HC := Lib.hid hC
 have HM := Lib.hid hM
 have HL := Lib.hid hL
 have HSZ := Lib.hid hL.size
 have HSD := Lib.hid hs
 have HBY := Lib.hid hF
 clear hC hM hL hs hF
 go_upto_region 0 with fail
 refine wp_region_lit ?_
 try simp only [Act.put, List.setIfInBounds_toArray, List.set_cons_zero, List.set_cons_succ]
 refine lp_step rfl (fun K hK => wp_box_row 28 (.tmp 0) rfl (.agg #[.int .u64 (s : Int), v]) rfl (hK _ _ ?_))
 try simp only [Act.put, List.setIfInBounds_toArray, List.set_cons_zero, List.set_cons_succ]
 show wpList _ _ _ _ _ (w0.alloc (.cells (([.int .u64 (s : Int), v] : List Value)).toArray 28))
 have HST : Hid (Below w0.heap.size w0 (w0.alloc (.cells (([.int .u64 (s : Int), v] : List Value)).toArray 28))) := Lib.hid ((Below.refl _ _).alloc (Nat.le_refl _) _)
 have HX1 : Hid (Has (w0.alloc (.cells (([.int .u64 (s : Int), v] : List Value)).toArray 28)) w0.heap.size 28 ([.int .u64 (s : Int), v])) := Lib.hid (Has.made' _ _ _ _ rfl)
 have HGg1 : Hid (w.heap.size ≤ w0.heap.size) := Lib.hid HB.out.size
 replace HB := Lib.hid (HB.out.trans (HST.out.mono HB.out.size))
 clear HST
 generalize w0.alloc (.cells (([.int .u64 (s : Int), v] : List Value)).toArray 28) = w1 at *
 generalize w0.heap.size = g1 at *
 refine lp_step rfl (fun K hK => wp_box_row 42 (.tmp 1) rfl (.agg (encU y).toArray) rfl (hK _ _ ?_))
 try simp only [Act.put, List.setIfInBounds_toArray, List.set_cons_zero, List.set_cons_succ]
 show wpList _ _ _ _ _ (w1.alloc (.cells (encU y).toArray 42))
 have HST : Hid (Below w1.heap.size w1 (w1.alloc (.cells (encU y).toArray 42))) := Lib.hid ((Below.refl _ _).alloc (Nat.le_refl _) _)
 have HLT_g1_g2 : Hid (g1 < w1.heap.size) := Lib.hid HX1.out.lt
 have HNE_g1_g2 : Hid (g1 ≠ w1.heap.size) := Lib.hid (Nat.ne_of_lt HX1.out.lt)
 have HX2 : Hid (Has (w1.alloc (.cells (encU y).toArray 42)) w1.heap.size 42 (encU y)) := Lib.hid (Has.made' _ _ _ _ rfl)
 replace HX1 := Lib.hid (HX1.out.keepB HST.out)
 have HGg2 : Hid (w.heap.size ≤ w1.heap.size) := Lib.hid HB.out.size
 replace HB := Lib.hid (HB.out.trans (HST.out.mono HB.out.size))
 clear HST
 generalize w1.alloc (.cells (encU y).toArray 42) = w2 at *
 generalize w1.heap.size = g2 at *
 refine lp_step rfl (fun K hK => wp_alloc_row 28 rfl (.agg #[.int .u64 0, .slice none 0 0]) (fun w => by kernel_rfl) (hK _ _ ?_))
 try simp only [Act.put, List.setIfInBounds_toArray, List.set_cons_zero, List.set_cons_succ]
 show wpList _ _ _ _ _ (w2.alloc (.cells (([.int .u64 0, .slice none 0 0] : List Value)).toArray 28))
 have HST : Hid (Below w2.heap.size w2 (w2.alloc (.cells (([.int .u64 0, .slice none 0 0] : List Value)).toArray 28))) := Lib.hid ((Below.refl _ _).alloc (Nat.le_refl _) _)
 have HLT_g1_g3 : Hid (g1 < w2.heap.size) := Lib.hid HX1.out.lt
 have HLT_g2_g3 : Hid (g2 < w2.heap.size) := Lib.hid HX2.out.lt
 have HNE_g1_g3 : Hid (g1 ≠ w2.heap.size) := Lib.hid (Nat.ne_of_lt HX1.out.lt)
 have HNE_g2_g3 : Hid (g2 ≠ w2.heap.size) := Lib.hid (Nat.ne_of_lt HX2.out.lt)
 have HX3 : Hid (Has (w2.alloc (.cells (([.int .u64 0, .slice none 0 0] : List Value)).toArray 28)) w2.heap.size 28 ([.int .u64 0, .slice none 0 0])) := Lib.hid (Has.made' _ _ _ _ rfl)
 replace HX1 := Lib.hid (HX1.out.keepB HST.out)
 replace HX2 := Lib.hid (HX2.out.keepB HST.out)
 have HGg3 : Hid (w.heap.size ≤ w2.heap.size) := Lib.hid HB.out.size
 replace HB := Lib.hid (HB.out.trans (HST.out.mono HB.out.size))
 clear HST
 generalize w2.alloc (.cells (([.int .u64 0, .slice none 0 0] : List Value)).toArray 28) = w3 at *
 generalize w2.heap.size = g3 at *
 refine wpList_nil ?_
 obtain ⟨gd, hgd⟩ : ∃ gd, goodN (L.length : Int) = gd := ⟨_, rfl⟩
 have HGD := Lib.hid hgd
 clear hgd
 cases gd
 ·go_upto_region 1 with fail
  refine wp_act (fun a0 ha0 => ?_)
  have zsz : a0.tmps.size = 20 := by rw [ha0]; rfl
  have z3 : a0.eval (.tmp 3) = .pointer (some ⟨g1, 0, none⟩) := by rw [ha0]; rfl
  refine wrO [] slotsTwf1 waitTwf1 [Fct.val Flz 0 (.agg #[.int .u64 (s : Int), v]), Fct.val Flz 1 (.bool false), Fct.val Flz 2 (.bool true)] (fun w' => Below w3.heap.size w3 w') _ 3 0 chkTwf1 (by kernel_rfl) (by kernel_rfl) (by kernel_rfl) (by decide) (Below.refl _ _) ?_ ?_
  ·refine lt_s (lt_s (lt_s (lt_0) ?_) ?_) ?_
   ·intro f w1 hS hf aA hA
    have r3 := qO 3 hA z3
    exact fV rfl rfl _ (ex_loadR 28 (.tmp 3) rfl ⟨g1, 0, none⟩ r3 (fun _ => by kernel_rfl) [.int .u64 (s : Int), v] (by kernel_rfl) ((HX1.out.keepB hS).part [.int .u64 (s : Int), v] 0 (fun j u hu => by rw [Nat.zero_add]; exact hu))) hS uS
   ·intro f w1 hS hf aA hA
    have r7 := qA 7 0 hA sbTwf1 zsz (hf 0 (by decide))
    exact fC rfl rfl 25 #[(.tmp 7)] _ rfl #[.agg #[.int .u64 (s : Int), v]] (mp1 r7) (fun w => by kernel_rfl) _ (as_any (goodT_any _ _ _ w1 (HC.out.keep (HB.out.trans (hS.mono HB.out.size)))) (congrArg Value.bool HGD.out)) hS (fun _ _ h => uS.trans h)
   ·intro f w1 hS hf aA hA
    have r8 := qA 8 1 hA sbTwf1 zsz (hf 1 (by decide))
    exact fV rfl rfl _ (ex_not _ (.tmp 8) rfl r8) hS uS
  intro f u1 hS hf hap
  have h0 := eqL (hf 0 (by decide)) rfl
  have h1 := eqL (hf 1 (by decide)) rfl
  have h2 := eqL (hf 2 (by decide)) rfl
  clear hf hap
  clear zsz z3
  subst ha0
  simp only [slotsTwf1, putAll, h0, h1, h2, Act.put, List.setIfInBounds_toArray, List.set_cons_zero, List.set_cons_succ]
  clear h0 h1 h2
  refine tl_nil ?_
  replace HX1 := Lib.hid (HX1.out.keepB hS)
  replace HX2 := Lib.hid (HX2.out.keepB hS)
  replace HX3 := Lib.hid (HX3.out.keepB hS)
  replace HB := Lib.hid (HB.out.trans (hS.mono HB.out.size))
  clear hS
  go_upto_region 2 with fail
  refine wp_act (fun a0 ha0 => ?_)
  have zsz : a0.tmps.size = 20 := by rw [ha0]; rfl
  have z3 : a0.eval (.tmp 3) = .pointer (some ⟨g1, 0, none⟩) := by rw [ha0]; rfl
  refine wrO [] slotsTwf2 waitTwf2 [Fct.val Flz 0 (.agg #[.int .u64 (s : Int), v])] (fun w' => Below u1.heap.size u1 w') _ 1 1 chkTwf2 (by kernel_rfl) (by kernel_rfl) (by kernel_rfl) (by decide) (Below.refl _ _) ?_ ?_
  ·refine lt_s (lt_0) ?_
   ·intro f w1 hS hf aA hA
    have r3 := qO 3 hA z3
    exact fV rfl rfl _ (ex_loadR 28 (.tmp 3) rfl ⟨g1, 0, none⟩ r3 (fun _ => by kernel_rfl) [.int .u64 (s : Int), v] (by kernel_rfl) ((HX1.out.keepB hS).part [.int .u64 (s : Int), v] 0 (fun j u hu => by rw [Nat.zero_add]; exact hu))) hS uS
  intro f u2 hS hf hap
  have h0 := eqL (hf 0 (by decide)) rfl
  clear hf hap
  clear zsz z3
  subst ha0
  simp only [slotsTwf2, putAll, h0, Act.put, List.setIfInBounds_toArray, List.set_cons_zero, List.set_cons_succ]
  clear h0
  have hBS := HB.out.trans (hS.mono HB.out.size)
  replace HX1 := Lib.hid (HX1.out.keepB hS)
  replace HX2 := Lib.hid (HX2.out.keepB hS)
  replace HX3 := Lib.hid (HX3.out.keepB hS)
  clear hS
  refine tl_store rfl (by kernel_rfl) 28 (.tmp 6) (.tmp 10) rfl g3 ([.int .u64 (s : Int), v]) _ rfl rfl _ HX3.out (by kernel_rfl) rfl (tb_ones _ HC.out.one) ?_
  intro u3 hp hbl hot
  replace HX1 : Hid (Has u3 g1 28 ([.int .u64 (s : Int), v])) := Lib.hid ((hot _ (HNE_g1_g3.out)).trans HX1.out)
  replace HX2 : Hid (Has u3 g2 42 (encU y)) := Lib.hid ((hot _ (Has.apartT HX2.out HX3.out (by decide))).trans HX2.out)
  replace HX3 : Hid (Has u3 g3 28 ([.int .u64 (s : Int), v])) := Lib.hid hp
  replace hBS := hBS.trans (hbl _ HGg3.out)
  clear hp hbl hot
  try simp only [Act.put]
  refine tl_nil ?_
  replace HB := Lib.hid hBS
  clear hBS
  have HLT : Hid (layT fo s y L = L) := Lib.hid (by unfold layT; rw [places_none HGD.out]; rfl)
  go_wp2_with fail
  (try simp only [Exit.inBlock, Exit.then])
  refine bodyPost_ret (v := .agg #[.int .u64 (s : Int), v]) ?_ rfl ⟨⟨_, rfl, v, rfl, by rw [HLT.out]; exact HC.out.keep HB.out⟩, HB.out⟩
  exact results_cell_row rfl _ _ g3 28 _ (0, 0) _ rfl HX3.out Tryd.underlying28 rfl (by kernel_rfl)
 ·go_upto_region 1 with fail
  refine wp_act (fun a0 ha0 => ?_)
  have zsz : a0.tmps.size = 20 := by rw [ha0]; rfl
  have z3 : a0.eval (.tmp 3) = .pointer (some ⟨g1, 0, none⟩) := by rw [ha0]; rfl
  refine wrO [] slotsTwf1 waitTwf1 [Fct.val Flz 0 (.agg #[.int .u64 (s : Int), v]), Fct.val Flz 1 (.bool true), Fct.val Flz 2 (.bool false)] (fun w' => Below w3.heap.size w3 w') _ 3 0 chkTwf1 (by kernel_rfl) (by kernel_rfl) (by kernel_rfl) (by decide) (Below.refl _ _) ?_ ?_
  ·refine lt_s (lt_s (lt_s (lt_0) ?_) ?_) ?_
   ·intro f w1 hS hf aA hA
    have r3 := qO 3 hA z3
    exact fV rfl rfl _ (ex_loadR 28 (.tmp 3) rfl ⟨g1, 0, none⟩ r3 (fun _ => by kernel_rfl) [.int .u64 (s : Int), v] (by kernel_rfl) ((HX1.out.keepB hS).part [.int .u64 (s : Int), v] 0 (fun j u hu => by rw [Nat.zero_add]; exact hu))) hS uS
   ·intro f w1 hS hf aA hA
    have r7 := qA 7 0 hA sbTwf1 zsz (hf 0 (by decide))
    exact fC rfl rfl 25 #[(.tmp 7)] _ rfl #[.agg #[.int .u64 (s : Int), v]] (mp1 r7) (fun w => by kernel_rfl) _ (as_any (goodT_any _ _ _ w1 (HC.out.keep (HB.out.trans (hS.mono HB.out.size)))) (congrArg Value.bool HGD.out)) hS (fun _ _ h => uS.trans h)
   ·intro f w1 hS hf aA hA
    have r8 := qA 8 1 hA sbTwf1 zsz (hf 1 (by decide))
    exact fV rfl rfl _ (ex_not _ (.tmp 8) rfl r8) hS uS
  intro f u1 hS hf hap
  have h0 := eqL (hf 0 (by decide)) rfl
  have h1 := eqL (hf 1 (by decide)) rfl
  have h2 := eqL (hf 2 (by decide)) rfl
  clear hf hap
  clear zsz z3
  subst ha0
  simp only [slotsTwf1, putAll, h0, h1, h2, Act.put, List.setIfInBounds_toArray, List.set_cons_zero, List.set_cons_succ]
  clear h0 h1 h2
  refine tl_nil ?_
  replace HX1 := Lib.hid (HX1.out.keepB hS)
  replace HX2 := Lib.hid (HX2.out.keepB hS)
  replace HX3 := Lib.hid (HX3.out.keepB hS)
  replace HB := Lib.hid (HB.out.trans (hS.mono HB.out.size))
  clear hS
  have HGB1 : Hid (g1 < u1.heap.size) := Lib.hid HX1.out.lt
  have HGB2 : Hid (g2 < u1.heap.size) := Lib.hid HX2.out.lt
  have HGB3 : Hid (g3 < u1.heap.size) := Lib.hid HX3.out.lt
  have HBB : Hid (w.heap.size ≤ u1.heap.size) := Lib.hid HB.out.size
  go_upto_region 3 with fail
  refine wp_act (fun a0 ha0 => ?_)
  have zsz : a0.tmps.size = 20 := by rw [ha0]; rfl
  have z3 : a0.eval (.tmp 3) = .pointer (some ⟨g1, 0, none⟩) := by rw [ha0]; rfl
  refine wrO [] slotsTwt3 waitTwt3 [Fct.val Flz 0 (.pointer (some ⟨g1, 1, none⟩)), Fct.val Flz 1 (v), Fct.obj 2 (fun v w => ∃ zz, v = zz ∧ RowO u1.heap.size 47 w zz (L)) (fun _ _ _ ⟨zz, a, b⟩ he => ⟨zz, a, b.flz he⟩), Fct.val Flz 3 (.pointer (some ⟨g1, 1, none⟩))] (fun w' => Below u1.heap.size u1 w') _ 4 1 chkTwt3 (by kernel_rfl) (by kernel_rfl) (by kernel_rfl) (by decide) (Below.refl _ _) ?_ ?_
  ·refine lt_s (lt_s (lt_s (lt_s (lt_0) ?_) ?_) ?_) ?_
   ·intro f w1 hS hf aA hA
    have r3 := qO 3 hA z3
    exact fV rfl rfl _ (fldT1 28 (Or.inl rfl) (.tmp 3) rfl g1 r3) hS uS
   ·intro f w1 hS hf aA hA
    have r11 := qA 11 0 hA sbTwt3 zsz (hf 0 (by decide))
    exact fV rfl rfl _ (ex_load1 26 (.tmp 11) rfl ⟨g1, 1, none⟩ r11 (fun _ => by kernel_rfl) ((HX1.out.keepB hS).cellv rfl)) hS uS
   ·intro f w1 hS hf aA hA
    have r12 := qA 12 1 hA sbTwt3 zsz (hf 1 (by decide))
    exact fC rfl rfl 48 #[(.tmp 12)] _ rfl #[v] (mp1 r12) (fun w => by kernel_rfl) _ (cloneC_in _ _ HM.out w1 (HC.out.keep (HB.out.trans (hS.mono HB.out.size))) u1.heap.size hS.size) hS (fun _ _ ⟨zz, a, b⟩ => ⟨zz, uS.trans a, b⟩)
   ·intro f w1 hS hf aA hA
    have r3 := qO 3 hA z3
    exact fV rfl rfl _ (fldT1 28 (Or.inl rfl) (.tmp 3) rfl g1 r3) hS uS
  intro f u2 hS hf hap
  have h0 := eqL (hf 0 (by decide)) rfl
  have h1 : f 1 = v := hf 1 (by decide)
  obtain ⟨v3_2, h2, hu2⟩ := hf 2 (by decide)
  have HU3_2 := Lib.hid hu2
  clear hu2
  have h3 := eqL (hf 3 (by decide)) rfl
  clear hf hap
  clear zsz z3
  subst ha0
  simp only [slotsTwt3, putAll, h0, h1, h2, h3, Act.put, List.setIfInBounds_toArray, List.set_cons_zero, List.set_cons_succ]
  clear h0 h1 h2 h3
  have hBS := HB.out.trans (hS.mono HB.out.size)
  replace HX1 := Lib.hid (HX1.out.keepB hS)
  replace HX2 := Lib.hid (HX2.out.keepB hS)
  replace HX3 := Lib.hid (HX3.out.keepB hS)
  clear hS
  refine tl_step rfl rfl (fun K hK => wp_store_at 26 (by kernel_rfl) (.tmp 14) (.tmp 13) rfl g1 1 28 [.int .u64 (s : Int), v] HX1.out (by simp) rfl v3_2 HU3_2.out.one rfl (fun u3 hp hbl hot => hK _ _ ?_))
  replace HX2 : Hid (Has u3 g2 42 (encU y)) := Lib.hid ((hot _ (Has.apartT HX2.out HX1.out (by decide))).trans HX2.out)
  replace HX3 : Hid (Has u3 g3 28 ([.int .u64 0, .slice none 0 0])) := Lib.hid ((hot _ (Ne.symm HNE_g1_g3.out)).trans HX3.out)
  replace HU3_2 := Lib.hid (HU3_2.out.hotb HX1.out HC.out.sl (by decide) (hbl 0 (Nat.zero_le _)).size hot)
  replace HX1 : Hid (Has u3 g1 28 ([.int .u64 (s : Int), v3_2])) := Lib.hid hp
  replace hBS := hBS.trans (hbl _ HGg1.out)
  clear hp hbl hot
  try simp only [Act.put]
  refine tl_nil ?_
  replace HB := Lib.hid hBS
  clear hBS
  go_upto_region 4 with fail
  refine wp_act (fun a0 ha0 => ?_)
  have zsz : a0.tmps.size = 20 := by rw [ha0]; rfl
  have z3 : a0.eval (.tmp 3) = .pointer (some ⟨g1, 0, none⟩) := by rw [ha0]; rfl
  have z4 : a0.eval (.tmp 4) = .pointer (some ⟨g2, 0, none⟩) := by rw [ha0]; rfl
  have z2 : a0.eval (.tmp 2) = .func (.func gF) #[] #[] := by rw [ha0]; rfl
  refine wrO [] slotsTwt4 waitTwt4 [Fct.val Flz 0 (.agg #[.int .u64 (s : Int), v3_2]), Fct.val Flz 1 (.agg (encU y).toArray), Fct.val Flz 2 (.func (.func gF) #[] #[])] (fun w' => Below u3.heap.size u3 w') _ 3 1 chkTwt4 (by kernel_rfl) (by kernel_rfl) (by kernel_rfl) (by decide) (Below.refl _ _) ?_ ?_
  ·refine lt_s (lt_s (lt_s (lt_0) ?_) ?_) ?_
   ·intro f w1 hS hf aA hA
    have r3 := qO 3 hA z3
    exact fV rfl rfl _ (ex_loadR 28 (.tmp 3) rfl ⟨g1, 0, none⟩ r3 (fun _ => by kernel_rfl) [.int .u64 (s : Int), v3_2] (by kernel_rfl) ((HX1.out.keepB hS).part [.int .u64 (s : Int), v3_2] 0 (fun j u hu => by rw [Nat.zero_add]; exact hu))) hS uS
   ·intro f w1 hS hf aA hA
    have r4 := qO 4 hA z4
    exact fV rfl rfl _ (ex_loadR 42 (.tmp 4) rfl ⟨g2, 0, none⟩ r4 (fun _ => by kernel_rfl) (encU y) (by rw [encU_len]; kernel_rfl) ((HX2.out.keepB hS).part (encU y) 0 (encU_all' y))) hS uS
   ·intro f w1 hS hf aA hA
    have r2 := qO 2 hA z2
    exact fV rfl rfl _ (ex_move (.tmp 2) rfl r2) hS uS
  intro f u4 hS hf hap
  have h0 := eqL (hf 0 (by decide)) rfl
  have h1 := eqL (hf 1 (by decide)) rfl
  have h2 := eqL (hf 2 (by decide)) rfl
  clear hf hap
  clear zsz z3 z4 z2
  subst ha0
  simp only [slotsTwt4, putAll, h0, h1, h2, Act.put, List.setIfInBounds_toArray, List.set_cons_zero, List.set_cons_succ]
  clear h0 h1 h2
  have HB4 := Lib.hid (HB.out.trans (hS.mono HB.out.size))
  have HO4 := Lib.hid (HU3_2.out.keep hS)
  have HX14 := Lib.hid (HX1.out.keepB hS)
  have HX24 := Lib.hid (HX2.out.keepB hS)
  have HX34 := Lib.hid (HX3.out.keepB hS)
  clear hS HX1 HX2 HX3 HB HU3_2
  refine tl_call rfl rfl 32 #[(.tmp 15), (.tmp 16), (.tmp 17)] _ rfl #[.agg #[.int .u64 (s : Int), v3_2], .agg (encU y).toArray, .func (.func gF) #[] #[]] (by kernel_rfl) (fun w => by kernel_rfl) _ (change_b s HSD.out y v3_2 L gF fo HBY.out u1.heap.size w u4 HB4.out HL.out HO4.out HBB.out) ?_
  rintro e u5 ⟨⟨z, rfl⟩, hO, hb5, hg5⟩
  refine ⟨z, rfl, ?_⟩
  have HO := Lib.hid hO
  have HB := Lib.hid hb5
  have HBA := Lib.hid hO.base
  have HX1 := Lib.hid (hg5.has HX14.out (fun k hk => by have := HBA.out k hk; have := HGB1.out; omega))
  have HX2 := Lib.hid (hg5.has HX24.out (fun k hk => by have := HBA.out k hk; have := HGB2.out; omega))
  have HX3 := Lib.hid (hg5.has HX34.out (fun k hk => by have := HBA.out k hk; have := HGB3.out; omega))
  clear hO hb5 hg5 HX14 HX24 HX34 HB4 HO4
  try simp only [Act.put]
  refine tl_nil ?_
  go_upto_region 5 with fail
  refine wp_act (fun a0 ha0 => ?_)
  have zsz : a0.tmps.size = 20 := by rw [ha0]; rfl
  have z3 : a0.eval (.tmp 3) = .pointer (some ⟨g1, 0, none⟩) := by rw [ha0]; rfl
  refine wrO [] slotsTwt5 waitTwt5 [Fct.val Flz 0 (.agg #[.int .u64 (s : Int), v3_2])] (fun w' => Below u5.heap.size u5 w') _ 1 1 chkTwt5 (by kernel_rfl) (by kernel_rfl) (by kernel_rfl) (by decide) (Below.refl _ _) ?_ ?_
  ·refine lt_s (lt_0) ?_
   ·intro f w1 hS hf aA hA
    have r3 := qO 3 hA z3
    exact fV rfl rfl _ (ex_loadR 28 (.tmp 3) rfl ⟨g1, 0, none⟩ r3 (fun _ => by kernel_rfl) [.int .u64 (s : Int), v3_2] (by kernel_rfl) ((HX1.out.keepB hS).part [.int .u64 (s : Int), v3_2] 0 (fun j u hu => by rw [Nat.zero_add]; exact hu))) hS uS
  intro f u6 hS hf hap
  have h0 := eqL (hf 0 (by decide)) rfl
  clear hf hap
  clear zsz z3
  subst ha0
  simp only [slotsTwt5, putAll, h0, Act.put, List.setIfInBounds_toArray, List.set_cons_zero, List.set_cons_succ]
  clear h0
  have hBS := HB.out.trans (hS.mono HB.out.size)
  replace HX1 := Lib.hid (HX1.out.keepB hS)
  replace HX2 := Lib.hid (HX2.out.keepB hS)
  replace HX3 := Lib.hid (HX3.out.keepB hS)
  replace HO := Lib.hid (HO.out.keep hS)
  clear hS
  refine tl_store rfl (by kernel_rfl) 28 (.tmp 6) (.tmp 19) rfl g3 ([.int .u64 (s : Int), v3_2]) _ rfl rfl _ HX3.out (by kernel_rfl) rfl (tb_ones _ HO.out.one) ?_
  intro u7 hp hbl hot
  replace HX1 : Hid (Has u7 g1 28 ([.int .u64 (s : Int), v3_2])) := Lib.hid ((hot _ (HNE_g1_g3.out)).trans HX1.out)
  replace HX2 : Hid (Has u7 g2 42 (encU y)) := Lib.hid ((hot _ (Has.apartT HX2.out HX3.out (by decide))).trans HX2.out)
  replace HO := Lib.hid (HO.out.hotb HX3.out ⟨_, _, _, rfl⟩ (by decide) (hbl 0 (Nat.zero_le _)).size hot)
  replace HX3 : Hid (Has u7 g3 28 ([.int .u64 (s : Int), v3_2])) := Lib.hid hp
  replace hBS := hBS.trans (hbl _ HGg3.out)
  clear hp hbl hot
  try simp only [Act.put]
  refine tl_nil ?_
  replace HB := Lib.hid hBS
  clear hBS
  go_wp2_with fail
  (try simp only [Exit.inBlock, Exit.then])
  refine bodyPost_ret (v := .agg #[.int .u64 (s : Int), v3_2]) ?_ rfl ⟨⟨_, rfl, v3_2, rfl, HO.out.cs⟩, HB.out⟩
  exact results_cell_row rfl _ _ g3 28 _ (0, 0) _ rfl HX3.out Tryd.underlying28 rfl (by kernel_rfl)
theorem withT_any (s : Nat) (y : Su) (v : Value) (L : List Ce) (gF : FuncId) (fo : Ce → Su → Ce) (w : World) (hs : s < 18446744073709551616) (hF : ByF gF fo) (hL : Laid w) (hM : L.length ≤ 1000000) (hC : Cs w v L) : Calls Tryd.prog 35 #[.agg #[.int .u64 (s : Int), v], .agg (encU y).toArray, .func (.func gF) #[] #[]] w fun e w' => (∃ v, e = .returned v ∧ ∃ x, v = .agg #[.int .u64 (s : Int), x] ∧ Cs w' x (layT fo s y L)) ∧ Below w.heap.size w w' := withT_b s y v L gF fo w w (Below.refl _ _) hs hF hL hM hC
def waittakeTa1 (i : Nat) : List Nat := ([[], [], [0, 1], [0, 1, 2]] : List (List Nat)).getD i []
def slotstakeTa1 : List (Nat × Nat) := [(5, 0), (6, 1), (7, 2)]
theorem sbtakeTa1 : slotsB slotstakeTa1 = true := by kernel_rfl
theorem chktakeTa1 : flwO slotstakeTa1 waittakeTa1 3 (regOf Tryd.f14.body 1) = true := by kernel_rfl
set_option maxHeartbeats 8000000 in
set_option maxRecDepth 100000 in
theorem takeT_b (s : Nat) (y : Su) (v : Value) (L : List Ce) (w w0 : World) (hB : Below w.heap.size w w0) (hs : s < 18446744073709551616) (hL : Laid w) (hM : L.length ≤ 1000000) (hC : Cs w v L) : Calls Tryd.prog 14 #[.agg #[.int .u64 (s : Int), v], .agg (encU y).toArray] w0 fun e w' => (∃ v, e = .returned v ∧ ∃ x, v = .agg #[.int .u64 (s : Int), x] ∧ Cs w' x (layT takeC s y L)) ∧ Below w.heap.size w w' := by
 go_enter Tryd.func14, Tryd.ntmps14
 have HB := Lib.hid hB
 clear hB
 have HC := Lib.hid hC
 have HM := Lib.hid hM
 have HL := Lib.hid hL
 have HSZ := Lib.hid hL.size
 have HSD := Lib.hid hs
 clear hC hM hL hs
 go_upto_region 0 with fail
 refine wp_region_lit ?_
 try simp only [Act.put, List.setIfInBounds_toArray, List.set_cons_zero, List.set_cons_succ]
 refine lp_step rfl (fun K hK => wp_box_row 28 (.tmp 0) rfl (.agg #[.int .u64 (s : Int), v]) rfl (hK _ _ ?_))
 try simp only [Act.put, List.setIfInBounds_toArray, List.set_cons_zero, List.set_cons_succ]
 show wpList _ _ _ _ _ (w0.alloc (.cells (([.int .u64 (s : Int), v] : List Value)).toArray 28))
 have HST : Hid (Below w0.heap.size w0 (w0.alloc (.cells (([.int .u64 (s : Int), v] : List Value)).toArray 28))) := Lib.hid ((Below.refl _ _).alloc (Nat.le_refl _) _)
 have HX1 : Hid (Has (w0.alloc (.cells (([.int .u64 (s : Int), v] : List Value)).toArray 28)) w0.heap.size 28 ([.int .u64 (s : Int), v])) := Lib.hid (Has.made' _ _ _ _ rfl)
 have HGg1 : Hid (w.heap.size ≤ w0.heap.size) := Lib.hid HB.out.size
 replace HB := Lib.hid (HB.out.trans (HST.out.mono HB.out.size))
 clear HST
 generalize w0.alloc (.cells (([.int .u64 (s : Int), v] : List Value)).toArray 28) = w1 at *
 generalize w0.heap.size = g1 at *
 refine lp_step rfl (fun K hK => wp_box_row 42 (.tmp 1) rfl (.agg (encU y).toArray) rfl (hK _ _ ?_))
 try simp only [Act.put, List.setIfInBounds_toArray, List.set_cons_zero, List.set_cons_succ]
 show wpList _ _ _ _ _ (w1.alloc (.cells (encU y).toArray 42))
 have HST : Hid (Below w1.heap.size w1 (w1.alloc (.cells (encU y).toArray 42))) := Lib.hid ((Below.refl _ _).alloc (Nat.le_refl _) _)
 have HLT_g1_g2 : Hid (g1 < w1.heap.size) := Lib.hid HX1.out.lt
 have HNE_g1_g2 : Hid (g1 ≠ w1.heap.size) := Lib.hid (Nat.ne_of_lt HX1.out.lt)
 have HX2 : Hid (Has (w1.alloc (.cells (encU y).toArray 42)) w1.heap.size 42 (encU y)) := Lib.hid (Has.made' _ _ _ _ rfl)
 replace HX1 := Lib.hid (HX1.out.keepB HST.out)
 have HGg2 : Hid (w.heap.size ≤ w1.heap.size) := Lib.hid HB.out.size
 replace HB := Lib.hid (HB.out.trans (HST.out.mono HB.out.size))
 clear HST
 generalize w1.alloc (.cells (encU y).toArray 42) = w2 at *
 generalize w1.heap.size = g2 at *
 refine lp_step rfl (fun K hK => wp_alloc_row 28 rfl (.agg #[.int .u64 0, .slice none 0 0]) (fun w => by kernel_rfl) (hK _ _ ?_))
 try simp only [Act.put, List.setIfInBounds_toArray, List.set_cons_zero, List.set_cons_succ]
 show wpList _ _ _ _ _ (w2.alloc (.cells (([.int .u64 0, .slice none 0 0] : List Value)).toArray 28))
 have HST : Hid (Below w2.heap.size w2 (w2.alloc (.cells (([.int .u64 0, .slice none 0 0] : List Value)).toArray 28))) := Lib.hid ((Below.refl _ _).alloc (Nat.le_refl _) _)
 have HLT_g1_g3 : Hid (g1 < w2.heap.size) := Lib.hid HX1.out.lt
 have HLT_g2_g3 : Hid (g2 < w2.heap.size) := Lib.hid HX2.out.lt
 have HNE_g1_g3 : Hid (g1 ≠ w2.heap.size) := Lib.hid (Nat.ne_of_lt HX1.out.lt)
 have HNE_g2_g3 : Hid (g2 ≠ w2.heap.size) := Lib.hid (Nat.ne_of_lt HX2.out.lt)
 have HX3 : Hid (Has (w2.alloc (.cells (([.int .u64 0, .slice none 0 0] : List Value)).toArray 28)) w2.heap.size 28 ([.int .u64 0, .slice none 0 0])) := Lib.hid (Has.made' _ _ _ _ rfl)
 replace HX1 := Lib.hid (HX1.out.keepB HST.out)
 replace HX2 := Lib.hid (HX2.out.keepB HST.out)
 have HGg3 : Hid (w.heap.size ≤ w2.heap.size) := Lib.hid HB.out.size
 replace HB := Lib.hid (HB.out.trans (HST.out.mono HB.out.size))
 clear HST
 generalize w2.alloc (.cells (([.int .u64 0, .slice none 0 0] : List Value)).toArray 28) = w3 at *
 generalize w2.heap.size = g3 at *
 refine wpList_nil ?_
 go_upto_region 1 with fail
 refine wp_act (fun a0 ha0 => ?_)
 have zsz : a0.tmps.size = 8 := by rw [ha0]; rfl
 have z2 : a0.eval (.tmp 2) = .pointer (some ⟨g1, 0, none⟩) := by rw [ha0]; rfl
 have z3 : a0.eval (.tmp 3) = .pointer (some ⟨g2, 0, none⟩) := by rw [ha0]; rfl
 refine wrO [] slotstakeTa1 waittakeTa1 [Fct.val Flz 0 (.agg #[.int .u64 (s : Int), v]), Fct.val Flz 1 (.agg (encU y).toArray), Fct.obj 2 (fun v w => ∃ zz, v = .agg #[.int .u64 (s : Int), zz] ∧ Cs w zz (layT takeC s y L)) (fun _ _ _ ⟨zz, a, b⟩ he => ⟨zz, a, b.flz he⟩)] (fun w' => Below w3.heap.size w3 w') _ 3 1 chktakeTa1 (by kernel_rfl) (by kernel_rfl) (by kernel_rfl) (by decide) (Below.refl _ _) ?_ ?_
 ·refine lt_s (lt_s (lt_s (lt_0) ?_) ?_) ?_
  ·intro f w1 hS hf aA hA
   have r2 := qO 2 hA z2
   exact fV rfl rfl _ (ex_loadR 28 (.tmp 2) rfl ⟨g1, 0, none⟩ r2 (fun _ => by kernel_rfl) [.int .u64 (s : Int), v] (by kernel_rfl) ((HX1.out.keepB hS).part [.int .u64 (s : Int), v] 0 (fun j u hu => by rw [Nat.zero_add]; exact hu))) hS uS
  ·intro f w1 hS hf aA hA
   have r3 := qO 3 hA z3
   exact fV rfl rfl _ (ex_loadR 42 (.tmp 3) rfl ⟨g2, 0, none⟩ r3 (fun _ => by kernel_rfl) (encU y) (by rw [encU_len]; kernel_rfl) ((HX2.out.keepB hS).part (encU y) 0 (encU_all' y))) hS uS
  ·intro f w1 hS hf aA hA
   have r5 := qA 5 0 hA sbtakeTa1 zsz (hf 0 (by decide))
   have r6 := qA 6 1 hA sbtakeTa1 zsz (hf 1 (by decide))
   exact fC rfl rfl 35 #[(.tmp 5), (.tmp 6), _] _ rfl #[.agg #[.int .u64 (s : Int), v], .agg (encU y).toArray, .func (.func 36) #[] #[]] (by simp only [List.map_toArray, List.map_cons, List.map_nil, r5, r6]; rfl) (fun w => by kernel_rfl) _ (withT_any s y _ L _ takeC w1 HSD.out byTake (HL.out.keep (HB.out.trans (hS.mono HB.out.size)) HSZ.out) HM.out (HC.out.keep (HB.out.trans (hS.mono HB.out.size)))) hS (fun _ _ ⟨zz, a, b⟩ => ⟨zz, uS.trans a, b⟩)
 intro f u1 hS hf hap
 have h0 := eqL (hf 0 (by decide)) rfl
 have h1 := eqL (hf 1 (by decide)) rfl
 obtain ⟨v1_2, h2, hu2⟩ := hf 2 (by decide)
 have HU1_2 := Lib.hid hu2
 clear hu2
 clear hf hap
 clear zsz z2 z3
 subst ha0
 simp only [slotstakeTa1, putAll, h0, h1, h2, Act.put, List.setIfInBounds_toArray, List.set_cons_zero, List.set_cons_succ]
 clear h0 h1 h2
 have hBS := HB.out.trans (hS.mono HB.out.size)
 replace HX1 := Lib.hid (HX1.out.keepB hS)
 replace HX2 := Lib.hid (HX2.out.keepB hS)
 replace HX3 := Lib.hid (HX3.out.keepB hS)
 clear hS
 refine tl_store rfl (by kernel_rfl) 28 (.tmp 4) (.tmp 7) rfl g3 ([.int .u64 (s : Int), v1_2]) _ rfl rfl _ HX3.out (by kernel_rfl) rfl (tb_ones _ HU1_2.out.one) ?_
 intro u3 hp hbl hot
 replace HX1 : Hid (Has u3 g1 28 ([.int .u64 (s : Int), v])) := Lib.hid ((hot _ (HNE_g1_g3.out)).trans HX1.out)
 replace HX2 : Hid (Has u3 g2 42 (encU y)) := Lib.hid ((hot _ (Has.apartT HX2.out HX3.out (by decide))).trans HX2.out)
 replace HU1_2 := Lib.hid (HU1_2.out.hotb HX3.out ⟨_, _, _, rfl⟩ (by decide) (hbl 0 (Nat.zero_le _)).size hot)
 replace HX3 : Hid (Has u3 g3 28 ([.int .u64 (s : Int), v1_2])) := Lib.hid hp
 replace hBS := hBS.trans (hbl _ HGg3.out)
 clear hp hbl hot
 try simp only [Act.put]
 refine tl_nil ?_
 replace HB := Lib.hid hBS
 clear hBS
 go_wp2_with fail
 (try simp only [Exit.inBlock, Exit.then])
 refine bodyPost_ret (v := .agg #[.int .u64 (s : Int), v1_2]) ?_ rfl ⟨⟨_, rfl, v1_2, rfl, HU1_2.out⟩, HB.out⟩
 exact results_cell_row rfl _ _ g3 28 _ (0, 0) _ rfl HX3.out Tryd.underlying28 rfl (by kernel_rfl)
theorem takeT_any (s : Nat) (y : Su) (v : Value) (L : List Ce) (w : World) (hs : s < 18446744073709551616) (hL : Laid w) (hM : L.length ≤ 1000000) (hC : Cs w v L) : Calls Tryd.prog 14 #[.agg #[.int .u64 (s : Int), v], .agg (encU y).toArray] w fun e w' => (∃ v, e = .returned v ∧ ∃ x, v = .agg #[.int .u64 (s : Int), x] ∧ Cs w' x (layT takeC s y L)) ∧ Below w.heap.size w w' := takeT_b s y v L w w (Below.refl _ _) hs hL hM hC
end Go.Proofs.YtnkcehmgagpadaaDoor
