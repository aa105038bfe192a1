/- Contracts: package peel's places, out, look. Conditions: the sums' tables are laid; a seed of 64 bits. -/
import Derived.Test.YtnkcehmgagpadaaDoorSq
import Derived.Test.YtnkcehmgagpadaaDoorGp17
import Derived.Test.YtnkcehmgagpadaaDoorGp4
import Derived.Test.YtnkcehmgagpadaaDoorGp2
namespace Go.Proofs.YtnkcehmgagpadaaDoor
open Go.RowKit
theorem Ins.zero {b : Nat} {w : World} {v : Value} {l : List Int} (h : InsF b w v l) : InsF 0 w v l := ⟨h.1, fun _ _ => Nat.zero_le _⟩
theorem places_small (s : Nat) (n : Int) (x : Su) : (places s n x).length ≤ 3 := by unfold places; split <;> simp
def waitPpl1 (i : Nat) : List Nat := ([[], [0], [1], [2], [3], [], [5], [6], [7], [8], [9], [], [4, 10, 11], [12]] : List (List Nat)).getD i []
def slotsPpl1 : List (Nat × Nat) := [(5, 0), (6, 1), (7, 2), (8, 3), (9, 4), (10, 5), (11, 6), (12, 7), (13, 8), (14, 9), (15, 10), (16, 11), (17, 12), (4, 13)]
theorem sbPpl1 : slotsB slotsPpl1 = true := by kernel_rfl
theorem chkPpl1 : flwB slotsPpl1 waitPpl1 14 (regOf Tryd.f54.body 1) = true := by kernel_rfl
set_option maxHeartbeats 8000000 in
set_option maxRecDepth 100000 in
theorem placesP_b (b g s : Nat) (L : List Ce) (A : List Bool) (P M : List Su) (vL vA vP vM : Value) (x : Su) (w w0 : World) (hB : Below w.heap.size w w0) (hs : s < 18446744073709551616) (hL : Laid w) (hP : PeS b w g s L A P M vL vA vP vM) : Calls Tryd.prog 54 #[.pointer (some ⟨g, 0, none⟩), .agg (encU x).toArray] w0 fun e w' => (∃ v, e = .returned v ∧ ∃ x', v = x' ∧ InsF w.heap.size w' x' (places s (L.length : Int) x)) ∧ Below w.heap.size w w' := by
 go_enter Tryd.func54, Tryd.ntmps54
 have HB := Lib.hid hB
 clear hB
 have HL := Lib.hid hL
 have HSZ := Lib.hid hL.size
 have HSD := Lib.hid hs
 have HP := Lib.hid (hP.keep HB.out)
 clear hL hs hP
 go_upto_region 0 with fail
 refine wp_region_lit ?_
 try simp only [Act.put, List.setIfInBounds_toArray, List.set_cons_zero, List.set_cons_succ]
 refine lp_step rfl (fun K hK => wp_box_row 42 (.tmp 1) rfl (.agg (encU x).toArray) rfl (hK _ _ ?_))
 try simp only [Act.put, List.setIfInBounds_toArray, List.set_cons_zero, List.set_cons_succ]
 show wpList _ _ _ _ _ (w0.alloc (.cells (encU x).toArray 42))
 have HST : Hid (Below w0.heap.size w0 (w0.alloc (.cells (encU x).toArray 42))) := Lib.hid ((Below.refl _ _).alloc (Nat.le_refl _) _)
 have HX1 : Hid (Has (w0.alloc (.cells (encU x).toArray 42)) w0.heap.size 42 (encU x)) := Lib.hid (Has.made' _ _ _ _ rfl)
 replace HP := Lib.hid (HP.out.keep HST.out)
 have HGg1 : Hid (w.heap.size ≤ w0.heap.size) := Lib.hid HB.out.size
 replace HB := Lib.hid (HB.out.trans (HST.out.mono HB.out.size))
 clear HST
 generalize w0.alloc (.cells (encU x).toArray 42) = w1 at *
 generalize w0.heap.size = g1 at *
 refine lp_pure (v := .slice none 0 0) rfl (ex_assign _ rfl rfl) ?_
 try simp only [Act.put, List.setIfInBounds_toArray, List.set_cons_zero, List.set_cons_succ]
 refine wpList_nil ?_
 obtain ⟨y1, hz1⟩ : ∃ z, z = w1 := ⟨_, rfl⟩
 subst hz1
 have HBW : Hid (w.heap.size ≤ y1.heap.size) := Lib.hid HB.out.size
 go_upto_region 1 with fail
 have HST : Hid (Below y1.heap.size y1 y1.drew) := Lib.hid (Below.refl _ _).drew
 replace HP := Lib.hid (HP.out.keep HST.out)
 replace HX1 := Lib.hid (HX1.out.keepB HST.out)
 replace HB := Lib.hid (HB.out.trans (HST.out.mono HB.out.size))
 clear HST
 refine wp_act (fun a0 ha0 => ?_)
 have zsz : a0.tmps.size = 18 := by rw [ha0]; rfl
 have z0 : a0.eval (.tmp 0) = .pointer (some ⟨g, 0, none⟩) := by rw [ha0]; rfl
 have z3 : a0.eval (.tmp 3) = .pointer (some ⟨g1, 0, none⟩) := by rw [ha0]; rfl
 refine wrD [] slotsPpl1 waitPpl1 [Fct.val Flz 0 (.pointer (some ⟨g, 0, none⟩)), Fct.val Flz 1 (.pointer (some ⟨g, 0, none⟩)), Fct.val Flz 2 (.pointer (some ⟨g, 0, none⟩)), Fct.val Flz 3 (.pointer (some ⟨g, 0, none⟩)), Fct.val Flz 4 (.int .u64 (s : Int)), Fct.val Flz 5 (.pointer (some ⟨g, 0, none⟩)), Fct.val Flz 6 (.pointer (some ⟨g, 0, none⟩)), Fct.val Flz 7 (.pointer (some ⟨g, 0, none⟩)), Fct.val Flz 8 (.pointer (some ⟨g, 1, none⟩)), Fct.val Flz 9 (vL), Fct.val Flz 10 (.int .i64 (((L).length : Int))), Fct.val Flz 11 (.agg (encU x).toArray), Fct.obj 12 (fun v w => ∃ zz, v = zz ∧ InsF y1.drew.heap.size w zz (places s (((L).length : Int)) x)) (fun _ _ _ ⟨zz, a, b⟩ he => ⟨zz, a, b.flz he⟩), Fct.obj 13 (fun v w => ∃ zz, v = zz ∧ InsF y1.drew.heap.size w zz (places s (((L).length : Int)) x)) (fun _ _ _ ⟨zz, a, b⟩ he => ⟨zz, a, b.flz he⟩)] (fun w' => Below y1.drew.heap.size y1.drew w') _ 14 0 chkPpl1 (by kernel_rfl) (by kernel_rfl) (by kernel_rfl) (by kernel_rfl) (by decide) (Below.refl _ _) ?_ ?_
 ·refine lt_s (lt_s (lt_s (lt_s (lt_s (lt_s (lt_s (lt_s (lt_s (lt_s (lt_s (lt_s (lt_s (lt_s (lt_0) ?_) ?_) ?_) ?_) ?_) ?_) ?_) ?_) ?_) ?_) ?_) ?_) ?_) ?_
  ·intro f w1 hS hf aA hA
   have r0 := qO 0 hA z0
   exact fV rfl rfl _ (ex_move (.tmp 0) rfl r0) hS uS
  ·intro f w1 hS hf aA hA
   have r5 := qA 5 0 hA sbPpl1 zsz (hf 0 (by decide))
   exact fV rfl rfl _ (ex_nil (.tmp 5) rfl g 0 r5) hS uS
  ·intro f w1 hS hf aA hA
   have r6 := qA 6 1 hA sbPpl1 zsz (hf 1 (by decide))
   exact fV rfl rfl _ (fldP0 (.tmp 6) rfl g r6) hS uS
  ·intro f w1 hS hf aA hA
   have r7 := qA 7 2 hA sbPpl1 zsz (hf 2 (by decide))
   exact fV rfl rfl _ (fldT0 28 (Or.inl rfl) (.tmp 7) rfl g r7) hS uS
  ·intro f w1 hS hf aA hA
   have r8 := qA 8 3 hA sbPpl1 zsz (hf 3 (by decide))
   exact fV rfl rfl _ (ex_load1 25 (.tmp 8) rfl ⟨g, 0, none⟩ r8 (fun _ => by kernel_rfl) ((HP.out.box.keepB hS).cellv rfl)) hS uS
  ·intro f w1 hS hf aA hA
   have r0 := qO 0 hA z0
   exact fV rfl rfl _ (ex_move (.tmp 0) rfl r0) hS uS
  ·intro f w1 hS hf aA hA
   have r10 := qA 10 5 hA sbPpl1 zsz (hf 5 (by decide))
   exact fV rfl rfl _ (ex_nil (.tmp 10) rfl g 0 r10) hS uS
  ·intro f w1 hS hf aA hA
   have r11 := qA 11 6 hA sbPpl1 zsz (hf 6 (by decide))
   exact fV rfl rfl _ (fldP0 (.tmp 11) rfl g r11) hS uS
  ·intro f w1 hS hf aA hA
   have r12 := qA 12 7 hA sbPpl1 zsz (hf 7 (by decide))
   exact fV rfl rfl _ (fldT1 28 (Or.inl rfl) (.tmp 12) rfl g r12) hS uS
  ·intro f w1 hS hf aA hA
   have r13 := qA 13 8 hA sbPpl1 zsz (hf 8 (by decide))
   exact fV rfl rfl _ (ex_load1 26 (.tmp 13) rfl ⟨g, 1, none⟩ r13 (fun _ => by kernel_rfl) ((HP.out.box.keepB hS).cellv rfl)) hS uS
  ·intro f w1 hS hf aA hA
   have r14 := qA 14 9 hA sbPpl1 zsz (hf 9 (by decide))
   obtain ⟨q9, c9, hv9, _⟩ := (HP.out.cells.keep hS).cs
   exact fV rfl rfl _ (ex_len 26 47 (.tmp 14) rfl (by kernel_rfl) q9 (L).length c9 (r14.trans hv9)) hS uS
  ·intro f w1 hS hf aA hA
   have r3 := qO 3 hA z3
   exact fV rfl rfl _ (ex_loadR 42 (.tmp 3) rfl ⟨g1, 0, none⟩ r3 (fun _ => by kernel_rfl) (encU x) (by rw [encU_len]; kernel_rfl) ((HX1.out.keepB hS).part (encU x) 0 (encU_all' x))) hS uS
  ·intro f w1 hS hf aA hA
   have r9 := qA 9 4 hA sbPpl1 zsz (hf 4 (by decide))
   have r15 := qA 15 10 hA sbPpl1 zsz (hf 10 (by decide))
   have r16 := qA 16 11 hA sbPpl1 zsz (hf 11 (by decide))
   exact fC rfl rfl 60 #[(.tmp 9), (.tmp 15), (.tmp 16)] _ rfl #[.int .u64 (s : Int), .int .i64 (((L).length : Int)), .agg (encU x).toArray] (mp3 r9 r15 r16) (fun w => by kernel_rfl) _ (placeOf_in s HSD.out (((L).length : Int)) x w1 (HL.out.keep (HB.out.trans (hS.mono HB.out.size)) HSZ.out) y1.drew.heap.size hS.size) hS (fun _ _ ⟨zz, a, b⟩ => ⟨zz, uS.trans a, b⟩)
  ·intro f w1 hS hf aA hA
   obtain ⟨x17, hx17, hr17⟩ := hf 12 (by decide)
   have e17 := pA 17 12 hA sbPpl1 (by kernel_rfl) zsz rfl hx17
   exact flw_val rfl rfl (x17) (ex_assign (.tmp 17) rfl e17) hS (Flz.refl _) ⟨x17, uS, hr17⟩
 intro f u1 hS hf hap
 have h0 := eqL (hf 0 (by decide)) rfl
 have h1 := eqL (hf 1 (by decide)) rfl
 have h2 := eqL (hf 2 (by decide)) rfl
 have h3 := eqL (hf 3 (by decide)) rfl
 have h4 := eqL (hf 4 (by decide)) rfl
 have h5 := eqL (hf 5 (by decide)) rfl
 have h6 := eqL (hf 6 (by decide)) rfl
 have h7 := eqL (hf 7 (by decide)) rfl
 have h8 := eqL (hf 8 (by decide)) rfl
 have h9 := eqL (hf 9 (by decide)) rfl
 have h10 := eqL (hf 10 (by decide)) rfl
 have h11 := eqL (hf 11 (by decide)) rfl
 obtain ⟨v1_12, h12, hu12⟩ := hf 12 (by decide)
 have HU1_12 := Lib.hid hu12
 clear hu12
 obtain ⟨v1_13, h13, hu13⟩ := hf 13 (by decide)
 have HU1_13 := Lib.hid hu13
 clear hu13
 clear hf hap
 clear zsz z0 z3
 subst ha0
 simp only [slotsPpl1, putAll, h0, h1, h2, h3, h4, h5, h6, h7, h8, h9, h10, h11, h12, h13, Act.put, List.setIfInBounds_toArray, List.set_cons_zero, List.set_cons_succ]
 clear h0 h1 h2 h3 h4 h5 h6 h7 h8 h9 h10 h11 h12 h13
 refine tl_nilN ?_
 replace HP := Lib.hid (HP.out.keep hS)
 replace HX1 := Lib.hid (HX1.out.keepB hS)
 replace HB := Lib.hid (HB.out.trans (hS.mono HB.out.size))
 clear hS
 go_wp2_with fail
 go_ret
 exact ⟨⟨_, rfl, v1_13, rfl, HU1_13.out.less HBW.out⟩, HB.out⟩
theorem placesP_any (b g s : Nat) (L : List Ce) (A : List Bool) (P M : List Su) (vL vA vP vM : Value) (x : Su) (w : World) (hs : s < 18446744073709551616) (hL : Laid w) (hP : PeS b w g s L A P M vL vA vP vM) : Calls Tryd.prog 54 #[.pointer (some ⟨g, 0, none⟩), .agg (encU x).toArray] w fun e w' => (∃ v, e = .returned v ∧ ∃ x', v = x' ∧ InsF w.heap.size w' x' (places s (L.length : Int) x)) ∧ Below w.heap.size w w' := placesP_b b g s L A P M vL vA vP vM x w w (Below.refl _ _) hs hL hP
theorem placesP_in (b g s : Nat) (L : List Ce) (A : List Bool) (P M : List Su) (vL vA vP vM : Value) (x : Su) (w : World) (hs : s < 18446744073709551616) (hL : Laid w) (hP : PeS b w g s L A P M vL vA vP vM) (b' : Nat) (hb : b' ≤ w.heap.size) : Calls Tryd.prog 54 #[.pointer (some ⟨g, 0, none⟩), .agg (encU x).toArray] w fun e w' => (∃ v, e = .returned v ∧ ∃ x', v = x' ∧ InsF b' w' x' (places s (L.length : Int) x)) ∧ Below w.heap.size w w' :=
 Calls.mono (placesP_any b g s L A P M vL vA vP vM x w hs hL hP) fun _ _ ⟨⟨u, h1, x', h2, h3⟩, h4⟩ => ⟨⟨u, h1, x', h2, h3.less hb⟩, h4⟩
def waitPou0 (i : Nat) : List Nat := ([[]] : List (List Nat)).getD i []
def slotsPou0 : List (Nat × Nat) := [(2, 0)]
theorem chkPou0 : flwO slotsPou0 waitPou0 1 (regOf Tryd.f27.body 0) = true := by kernel_rfl
def waitPou1 (i : Nat) : List Nat := ([[], [0], [1], [2], [3], [], [5], [6], [7], [8], [4, 9], [10]] : List (List Nat)).getD i []
def slotsPou1 : List (Nat × Nat) := [(3, 0), (4, 1), (5, 2), (6, 3), (7, 4), (8, 5), (9, 6), (10, 7), (11, 8), (12, 9), (13, 10), (2, 11)]
theorem sbPou1 : slotsB slotsPou1 = true := by kernel_rfl
theorem chkPou1 : flwB slotsPou1 waitPou1 12 (regOf Tryd.f27.body 1) = true := by kernel_rfl
set_option maxHeartbeats 8000000 in
set_option maxRecDepth 100000 in
theorem outP_b (b g s : Nat) (L : List Ce) (A : List Bool) (P M : List Su) (vL vA vP vM : Value) (w w0 : World) (hB : Below w.heap.size w w0) (hP : PeS b w g s L A P M vL vA vP vM) (hn : P.length ≤ 1000000) (hm : M.length ≤ 1000000) : Calls Tryd.prog 27 #[.pointer (some ⟨g, 0, none⟩)] w0 fun e w' => (∃ v, e = .returned v ∧ v = .int .i64 ((P.length + M.length : Nat) : Int)) ∧ Below w.heap.size w w' := by
 go_enter Tryd.func27, Tryd.ntmps27
 have HB := Lib.hid hB
 clear hB
 have HWR : Hid (IntKind.i64.wrap (((P).length : Int) + ((M).length : Int)) = ((P.length + M.length : Nat) : Int)) := Lib.hid (by rw [IntKind.wrap_i64]; omega)
 have HP := Lib.hid (hP.keep HB.out)
 clear hP hn hm
 go_upto_region 0 with fail
 refine wp_act (fun a0 ha0 => ?_)
 have zsz : a0.tmps.size = 14 := by rw [ha0]; rfl
 refine wrO [] slotsPou0 waitPou0 [Fct.val Flz 0 (.int .i64 0)] (fun w' => Below w0.heap.size w0 w') _ 1 0 chkPou0 (by kernel_rfl) (by kernel_rfl) (by kernel_rfl) (by decide) (Below.refl _ _) ?_ ?_
 ·refine lt_s (lt_0) ?_
  ·intro f w1 hS hf aA hA
   exact fV rfl rfl (.int .i64 0) (ex_assign _ rfl rfl) hS uS
 intro f u0 hS hf hap
 have h0 := eqL (hf 0 (by decide)) rfl
 clear hf hap
 clear zsz
 subst ha0
 simp only [slotsPou0, putAll, h0, Act.put, List.setIfInBounds_toArray, List.set_cons_zero, List.set_cons_succ]
 clear h0
 refine tl_nil ?_
 replace HP := Lib.hid (HP.out.keep hS)
 replace HB := Lib.hid (HB.out.trans (hS.mono HB.out.size))
 clear hS
 go_upto_region 1 with fail
 have HST : Hid (Below u0.heap.size u0 u0.drew) := Lib.hid (Below.refl _ _).drew
 replace HP := Lib.hid (HP.out.keep HST.out)
 replace HB := Lib.hid (HB.out.trans (HST.out.mono HB.out.size))
 clear HST
 refine wp_act (fun a0 ha0 => ?_)
 have zsz : a0.tmps.size = 14 := by rw [ha0]; rfl
 have z0 : a0.eval (.tmp 0) = .pointer (some ⟨g, 0, none⟩) := by rw [ha0]; rfl
 refine wrD [] slotsPou1 waitPou1 [Fct.val Flz 0 (.pointer (some ⟨g, 0, none⟩)), Fct.val Flz 1 (.pointer (some ⟨g, 0, none⟩)), Fct.val Flz 2 (.pointer (some ⟨g, 3, none⟩)), Fct.val Flz 3 (vP), Fct.val Flz 4 (.int .i64 (((P).length : Int))), Fct.val Flz 5 (.pointer (some ⟨g, 0, none⟩)), Fct.val Flz 6 (.pointer (some ⟨g, 0, none⟩)), Fct.val Flz 7 (.pointer (some ⟨g, 4, none⟩)), Fct.val Flz 8 (vM), Fct.val Flz 9 (.int .i64 (((M).length : Int))), Fct.val Flz 10 (.int .i64 (IntKind.i64.wrap ((((P).length : Int)) + (((M).length : Int))))), Fct.val Flz 11 (.int .i64 (IntKind.i64.wrap ((((P).length : Int)) + (((M).length : Int)))))] (fun w' => Below u0.drew.heap.size u0.drew w') _ 12 0 chkPou1 (by kernel_rfl) (by kernel_rfl) (by kernel_rfl) (by kernel_rfl) (by decide) (Below.refl _ _) ?_ ?_
 ·refine lt_s (lt_s (lt_s (lt_s (lt_s (lt_s (lt_s (lt_s (lt_s (lt_s (lt_s (lt_s (lt_0) ?_) ?_) ?_) ?_) ?_) ?_) ?_) ?_) ?_) ?_) ?_) ?_
  ·intro f w1 hS hf aA hA
   have r0 := qO 0 hA z0
   exact fV rfl rfl _ (ex_move (.tmp 0) rfl r0) hS uS
  ·intro f w1 hS hf aA hA
   have r3 := qA 3 0 hA sbPou1 zsz (hf 0 (by decide))
   exact fV rfl rfl _ (ex_nil (.tmp 3) rfl g 0 r3) hS uS
  ·intro f w1 hS hf aA hA
   have r4 := qA 4 1 hA sbPou1 zsz (hf 1 (by decide))
   exact fV rfl rfl _ (fldP2 (.tmp 4) rfl g r4) hS uS
  ·intro f w1 hS hf aA hA
   have r5 := qA 5 2 hA sbPou1 zsz (hf 2 (by decide))
   exact fV rfl rfl _ (ex_load1 23 (.tmp 5) rfl ⟨g, 3, none⟩ r5 (fun _ => by kernel_rfl) ((HP.out.box.keepB hS).cellv rfl)) hS uS
  ·intro f w1 hS hf aA hA
   have r6 := qA 6 3 hA sbPou1 zsz (hf 3 (by decide))
   obtain ⟨q9, c9, hv9, _⟩ := (HP.out.plus.keep hS).cs
   exact fV rfl rfl _ (ex_len 23 42 (.tmp 6) rfl (by kernel_rfl) q9 (P).length c9 (r6.trans hv9)) hS uS
  ·intro f w1 hS hf aA hA
   have r0 := qO 0 hA z0
   exact fV rfl rfl _ (ex_move (.tmp 0) rfl r0) hS uS
  ·intro f w1 hS hf aA hA
   have r8 := qA 8 5 hA sbPou1 zsz (hf 5 (by decide))
   exact fV rfl rfl _ (ex_nil (.tmp 8) rfl g 0 r8) hS uS
  ·intro f w1 hS hf aA hA
   have r9 := qA 9 6 hA sbPou1 zsz (hf 6 (by decide))
   exact fV rfl rfl _ (fldP3 (.tmp 9) rfl g r9) hS uS
  ·intro f w1 hS hf aA hA
   have r10 := qA 10 7 hA sbPou1 zsz (hf 7 (by decide))
   exact fV rfl rfl _ (ex_load1 23 (.tmp 10) rfl ⟨g, 4, none⟩ r10 (fun _ => by kernel_rfl) ((HP.out.box.keepB hS).cellv rfl)) hS uS
  ·intro f w1 hS hf aA hA
   have r11 := qA 11 8 hA sbPou1 zsz (hf 8 (by decide))
   obtain ⟨q9, c9, hv9, _⟩ := (HP.out.minus.keep hS).cs
   exact fV rfl rfl _ (ex_len 23 42 (.tmp 11) rfl (by kernel_rfl) q9 (M).length c9 (r11.trans hv9)) hS uS
  ·intro f w1 hS hf aA hA
   have r7 := qA 7 4 hA sbPou1 zsz (hf 4 (by decide))
   have r12 := qA 12 9 hA sbPou1 zsz (hf 9 (by decide))
   exact fV rfl rfl _ (ex_int .add _ _ (.tmp 7) (.tmp 12) rfl .i64 (((P).length : Int)) (((M).length : Int)) r7 r12 (.int .i64 (IntKind.i64.wrap ((((P).length : Int)) + (((M).length : Int))))) (fun _ => rfl)) hS uS
  ·intro f w1 hS hf aA hA
   have r13 := qA 13 10 hA sbPou1 zsz (hf 10 (by decide))
   exact fV rfl rfl _ (ex_assign (.tmp 13) rfl r13) hS uS
 intro f u1 hS hf hap
 have h0 := eqL (hf 0 (by decide)) rfl
 have h1 := eqL (hf 1 (by decide)) rfl
 have h2 := eqL (hf 2 (by decide)) rfl
 have h3 := eqL (hf 3 (by decide)) rfl
 have h4 := eqL (hf 4 (by decide)) rfl
 have h5 := eqL (hf 5 (by decide)) rfl
 have h6 := eqL (hf 6 (by decide)) rfl
 have h7 := eqL (hf 7 (by decide)) rfl
 have h8 := eqL (hf 8 (by decide)) rfl
 have h9 := eqL (hf 9 (by decide)) rfl
 have h10 := eqL (hf 10 (by decide)) rfl
 have h11 := eqL (hf 11 (by decide)) rfl
 clear hf hap
 clear zsz z0
 subst ha0
 simp only [slotsPou1, putAll, h0, h1, h2, h3, h4, h5, h6, h7, h8, h9, h10, h11, Act.put, List.setIfInBounds_toArray, List.set_cons_zero, List.set_cons_succ]
 clear h0 h1 h2 h3 h4 h5 h6 h7 h8 h9 h10 h11
 refine tl_nilN ?_
 replace HP := Lib.hid (HP.out.keep hS)
 replace HB := Lib.hid (HB.out.trans (hS.mono HB.out.size))
 clear hS
 go_wp2_with fail
 go_ret
 exact ⟨⟨_, rfl, congrArg (Value.int .i64) HWR.out⟩, HB.out⟩
theorem outP_any (b g s : Nat) (L : List Ce) (A : List Bool) (P M : List Su) (vL vA vP vM : Value) (w : World) (hP : PeS b w g s L A P M vL vA vP vM) (hn : P.length ≤ 1000000) (hm : M.length ≤ 1000000) : Calls Tryd.prog 27 #[.pointer (some ⟨g, 0, none⟩)] w fun e w' => (∃ v, e = .returned v ∧ v = .int .i64 ((P.length + M.length : Nat) : Int)) ∧ Below w.heap.size w w' := outP_b b g s L A P M vL vA vP vM w w (Below.refl _ _) hP hn hm
def waitPlkf0 (i : Nat) : List Nat := ([[], [0], [1], [2], [3], [], [4, 5], [6], [7], [8], [9], [9], [9], [], [0, 1, 2, 3, 4, 5, 6, 7, 8, 9, 10, 11, 12, 13], [0, 1, 2, 3, 4, 5, 6, 7, 8, 9, 10, 11, 12, 13, 14], [0, 1, 2, 3, 4, 5, 6, 7, 8, 9, 10, 11, 12, 13, 14, 15]] : List (List Nat)).getD i []
def slotsPlkf0 : List (Nat × Nat) := [(8, 0), (9, 1), (10, 2), (11, 3), (12, 4), (13, 5), (14, 6), (15, 7), (16, 8), (7, 9), (17, 10), (18, 11), (19, 12), (4, 13), (5, 15), (6, 16)]
theorem sbPlkf0 : slotsB slotsPlkf0 = true := by kernel_rfl
theorem chkPlkf0 : flwO slotsPlkf0 waitPlkf0 14 (regOf Tryd.f51.body 0) = true := by kernel_rfl
def waitPlkf1 (i : Nat) : List Nat := ([[], [0], [1], [2], [], [], [5], [6], [6], [6], [6], [6], [6, 11], [3, 4], [0, 1, 2, 3, 4, 5, 6, 7, 8, 9, 10, 11, 12, 13]] : List (List Nat)).getD i []
def slotsPlkf1 : List (Nat × Nat) := [(20, 0), (21, 1), (22, 2), (23, 3), (24, 4), (25, 5), (26, 6), (27, 7), (28, 8), (29, 9), (30, 10), (31, 11), (32, 12), (33, 13)]
theorem sbPlkf1 : slotsB slotsPlkf1 = true := by kernel_rfl
theorem chkPlkf1 : flwB slotsPlkf1 waitPlkf1 14 (regOf Tryd.f51.body 1) = true := by kernel_rfl
def waitPlkt1 (i : Nat) : List Nat := ([[], [0], [1], [2], [], [], [5], [6], [6], [6, 7, 8], [6], [6, 9, 10], [6, 11], [3, 4], [0, 1, 2, 3, 4, 5, 6, 7, 8, 9, 10, 11, 12, 13]] : List (List Nat)).getD i []
def slotsPlkt1 : List (Nat × Nat) := [(20, 0), (21, 1), (22, 2), (23, 3), (24, 4), (25, 5), (26, 6), (27, 7), (28, 8), (29, 9), (30, 10), (31, 11), (32, 12), (33, 13)]
theorem sbPlkt1 : slotsB slotsPlkt1 = true := by kernel_rfl
theorem chkPlkt1 : flwB slotsPlkt1 waitPlkt1 14 (regOf Tryd.f51.body 1) = true := by kernel_rfl
set_option maxHeartbeats 16000000 in
set_option maxRecDepth 100000 in
theorem look_b (b g s : Nat) (L : List Ce) (A : List Bool) (P M : List Su) (vL vA vP vM : Value) (i : Nat) (hi : i < L.length) (hA : A.length = L.length) (w w0 : World) (hB : Below w.heap.size w w0) (hs : s < 18446744073709551616) (hL : Laid w) (hP : PeS b w0 g s L A P M vL vA vP vM) :
  Calls Tryd.prog 51 #[.pointer (some ⟨g, 0, none⟩), .int .i64 (i : Int)] w0 fun e w' => (∃ u, e = .returned u) ∧ PeS b w' g s L (A.set i (alone s L.length L[i] i)) P M vL vA vP vM ∧ Grw w0 w' vA.ownBlock := by
 have HB := Lib.hid hB
 have HL := Lib.hid hL
 have HSZ := Lib.hid hL.size
 have HSD := Lib.hid hs
 have HP := Lib.hid hP
 have HIA : Hid (i < A.length) := Lib.hid (by omega)
 have HGR : Hid (Grw w0 w0 vA.ownBlock) := Lib.hid (Grw.refl _ _)
 obtain ⟨z, hz⟩ : ∃ z, z = w0 := ⟨_, rfl⟩
 rw [show (Grw w0 : World → Option Nat → Prop) = Grw z by rw [hz]] at HGR ⊢
 obtain ⟨c, hc⟩ : ∃ c, L[i] = c := ⟨_, rfl⟩
 obtain ⟨gc, cap, hgv, hgb, hgl, hel⟩ := hP.cells.el hi
 rw [hc] at hel ⊢
 have HGV := Lib.hid hgv
 have HEL := Lib.hid hel
 clear hB hL hs hP hz hgv hgb hgl hel hA hc
 go_enter Tryd.func51, Tryd.ntmps51
 obtain ⟨pu, hpu⟩ : ∃ pu, isPure c = pu := ⟨_, rfl⟩
 have HPU := Lib.hid hpu
 clear hpu
 cases pu
 ·go_upto_region 0 with fail
  refine wp_act (fun a0 ha0 => ?_)
  have zsz : a0.tmps.size = 34 := by rw [ha0]; rfl
  have z0 : a0.eval (.tmp 0) = .pointer (some ⟨g, 0, none⟩) := by rw [ha0]; rfl
  have z1 : a0.eval (.tmp 1) = .int .i64 ((i : Int)) := by rw [ha0]; rfl
  refine wrO [] slotsPlkf0 waitPlkf0 [Fct.val Flz 0 (.pointer (some ⟨g, 0, none⟩)), Fct.val Flz 1 (.pointer (some ⟨g, 0, none⟩)), Fct.val Flz 2 (.pointer (some ⟨g, 0, none⟩)), Fct.val Flz 3 (.pointer (some ⟨g, 1, none⟩)), Fct.val Flz 4 (vL), Fct.val Flz 5 (.int .i64 ((i : Int))), Fct.val Flz 6 (.pointer (some ((⟨gc, 0, none⟩ : Addr).add (i * 65)))), Fct.val Flz 7 (aggC c), Fct.val Flz 8 (.tuple #[.agg (encU zS).toArray, .bool false, .bool false]), Fct.val Flz 9 (.tuple #[.agg (encU zS).toArray, .bool false, .bool false]), Fct.val Flz 10 (.agg (encU zS).toArray), Fct.val Flz 11 (.bool false), Fct.val Flz 12 (.bool false), Fct.obj 13 (fun v w => ∃ g, v = .pointer (some ⟨g, 0, none⟩) ∧ w0.heap.size ≤ g ∧ Has w g 42 (encU zS)) (fun _ _ _ ⟨g, a, b, c⟩ he => ⟨g, a, b, c.flz he (by decide)⟩)] (fun w' => Below w0.heap.size w0 w') _ 14 3 chkPlkf0 (by kernel_rfl) (by kernel_rfl) (by kernel_rfl) (by decide) (Below.refl _ _) ?_ ?_
  ·refine lt_s (lt_s (lt_s (lt_s (lt_s (lt_s (lt_s (lt_s (lt_s (lt_s (lt_s (lt_s (lt_s (lt_s (lt_0) ?_) ?_) ?_) ?_) ?_) ?_) ?_) ?_) ?_) ?_) ?_) ?_) ?_) ?_
   ·intro f w1 hS hf aA hA
    have r0 := qO 0 hA z0
    exact fV rfl rfl _ (ex_move (.tmp 0) rfl r0) hS uS
   ·intro f w1 hS hf aA hA
    have r8 := qA 8 0 hA sbPlkf0 zsz (hf 0 (by decide))
    exact fV rfl rfl _ (ex_nil (.tmp 8) rfl g 0 r8) hS uS
   ·intro f w1 hS hf aA hA
    have r9 := qA 9 1 hA sbPlkf0 zsz (hf 1 (by decide))
    exact fV rfl rfl _ (fldP0 (.tmp 9) rfl g r9) hS uS
   ·intro f w1 hS hf aA hA
    have r10 := qA 10 2 hA sbPlkf0 zsz (hf 2 (by decide))
    exact fV rfl rfl _ (fldT1 28 (Or.inl rfl) (.tmp 10) rfl g r10) hS uS
   ·intro f w1 hS hf aA hA
    have r11 := qA 11 3 hA sbPlkf0 zsz (hf 3 (by decide))
    exact fV rfl rfl _ (ex_load1 26 (.tmp 11) rfl ⟨g, 1, none⟩ r11 (fun _ => by kernel_rfl) ((HP.out.box.keepB hS).cellv rfl)) hS uS
   ·intro f w1 hS hf aA hA
    have r1 := qO 1 hA z1
    exact fV rfl rfl _ (ex_move (.tmp 1) rfl r1) hS uS
   ·intro f w1 hS hf aA hA
    have r12 := qA 12 4 hA sbPlkf0 zsz (hf 4 (by decide))
    have r13 := qA 13 5 hA sbPlkf0 zsz (hf 5 (by decide))
    exact fV rfl rfl _ (ex_indexS 26 47 (.tmp 12) (.tmp 13) rfl (⟨gc, 0, none⟩ : Addr) L.length cap i 65 (by kernel_rfl) (fun _ => by kernel_rfl) (Eq.trans r12 HGV.out) r13 hi) hS uS
   ·intro f w1 hS hf aA hA
    have r14 := qA 14 6 hA sbPlkf0 zsz (hf 6 (by decide))
    exact fV rfl rfl _ (ex_loadR 47 (.tmp 14) rfl ((⟨gc, 0, none⟩ : Addr).add (i * 65)) r14 (fun _ => by kernel_rfl) (encC c) (by rw [encC_len]; kernel_rfl) (HEL.out w1 hS.block)) hS uS
   ·intro f w1 hS hf aA hA
    have r15 := qA 15 7 hA sbPlkf0 zsz (hf 7 (by decide))
    exact fC rfl rfl 53 #[(.tmp 15)] _ rfl #[aggC c] (mp1 r15) (fun w => by kernel_rfl) _ (as_any (pure_any c w1 (HL.out.keep (HB.out.trans (hS.mono HB.out.size)) HSZ.out)) (pureV_off HPU.out)) hS (fun _ _ h => uS.trans h)
   ·intro f w1 hS hf aA hA
    have r16 := qA 16 8 hA sbPlkf0 zsz (hf 8 (by decide))
    exact fV rfl rfl _ (ex_move (.tmp 16) rfl r16) hS uS
   ·intro f w1 hS hf aA hA
    have r7 := qA 7 9 hA sbPlkf0 zsz (hf 9 (by decide))
    exact fV rfl rfl _ (ex_extract (.tmp 7) 0 rfl r7 rfl) hS uS
   ·intro f w1 hS hf aA hA
    have r7 := qA 7 9 hA sbPlkf0 zsz (hf 9 (by decide))
    exact fV rfl rfl _ (ex_extract (.tmp 7) 1 rfl r7 rfl) hS uS
   ·intro f w1 hS hf aA hA
    have r7 := qA 7 9 hA sbPlkf0 zsz (hf 9 (by decide))
    exact fV rfl rfl _ (ex_extract (.tmp 7) 2 rfl r7 rfl) hS uS
   ·intro f w1 hS hf aA hA
    exact flw_wp rfl rfl (fun K hK => wp_alloc_row 42 rfl (.agg (encU zS).toArray) (fun w => by kernel_rfl) (hK _ _ (hS.alloc hS.size _) (Flz.al _ _) ⟨_, uS, hS.size, Has.made' _ _ _ _ rfl⟩))
  intro f u1 hS hf hap
  have h0 := eqL (hf 0 (by decide)) rfl
  have h1 := eqL (hf 1 (by decide)) rfl
  have h2 := eqL (hf 2 (by decide)) rfl
  have h3 := eqL (hf 3 (by decide)) rfl
  have h4 := eqL (hf 4 (by decide)) rfl
  have h5 := eqL (hf 5 (by decide)) rfl
  have h6 := eqL (hf 6 (by decide)) rfl
  have h7 := eqL (hf 7 (by decide)) rfl
  have h8 := eqL (hf 8 (by decide)) rfl
  have h9 := eqL (hf 9 (by decide)) rfl
  have h10 := eqL (hf 10 (by decide)) rfl
  have h11 := eqL (hf 11 (by decide)) rfl
  have h12 := eqL (hf 12 (by decide)) rfl
  obtain ⟨b0_13, h13, hgb13, hhb13⟩ := hf 13 (by decide)
  clear hf hap
  clear zsz z0 z1
  subst ha0
  simp only [slotsPlkf0, putAll, h0, h1, h2, h3, h4, h5, h6, h7, h8, h9, h10, h11, h12, h13, Act.put, List.setIfInBounds_toArray, List.set_cons_zero, List.set_cons_succ]
  clear h0 h1 h2 h3 h4 h5 h6 h7 h8 h9 h10 h11 h12 h13
  refine tl_store rfl (by kernel_rfl) 42 (.tmp 4) (.tmp 17) rfl b0_13 (encU zS) _ rfl rfl _ hhb13 (by rw [encU_len]; kernel_rfl) (by simp only [encU_len]) (encU_all _) ?_
  intro u2 hp13 hbl hot
  replace hS := hS.trans (hbl _ hgb13)
  clear hbl hot hhb13
  try simp only [Act.put]
  refine tl_pure rfl (by kernel_rfl) (.bool false) (ex_assign (.tmp 18) rfl rfl) ?_
  try simp only [Act.put, List.setIfInBounds_toArray, List.set_cons_zero, List.set_cons_succ]
  refine tl_pure rfl (by kernel_rfl) (.bool false) (ex_assign (.tmp 19) rfl rfl) ?_
  try simp only [Act.put, List.setIfInBounds_toArray, List.set_cons_zero, List.set_cons_succ]
  refine tl_nil ?_
  replace HP := Lib.hid (HP.out.keep hS)
  replace HGR := Lib.hid (HGR.out.bel hS)
  have HBW := Lib.hid HB.out.size
  replace HB := Lib.hid (HB.out.trans (hS.mono HB.out.size))
  clear hS
  have HGb0_13 : Hid (w.heap.size ≤ b0_13) := Lib.hid (Nat.le_trans HBW.out hgb13)
  have HX_b0_13 : Hid (Has u2 b0_13 42 (encU zS)) := Lib.hid hp13
  clear hp13 hgb13
  clear HBW
  obtain ⟨ga, hav, _, _, _⟩ := HP.out.bools.el HIA.out
  have HAV := Lib.hid hav
  clear hav
  obtain ⟨pl, hpl⟩ : ∃ pl, pl = places s ((L).length : Int) c.2.1 := ⟨_, rfl⟩
  have HPL : Hid ((places s ((L).length : Int) c.2.1).length ≤ 1000000) := Lib.hid (Nat.le_trans (places_small _ _ _) (by decide))
  clear hpl
  go_upto_region 1 with fail
  have HST : Hid (Below u2.heap.size u2 u2.drew) := Lib.hid (Below.refl _ _).drew
  replace HP := Lib.hid (HP.out.keep HST.out)
  replace HGR := Lib.hid (HGR.out.bel HST.out)
  replace HX_b0_13 := Lib.hid (HX_b0_13.out.keepB HST.out)
  replace HB := Lib.hid (HB.out.trans (HST.out.mono HB.out.size))
  clear HST
  refine wp_act (fun a0 ha0 => ?_)
  have zsz : a0.tmps.size = 34 := by rw [ha0]; rfl
  have z0 : a0.eval (.tmp 0) = .pointer (some ⟨g, 0, none⟩) := by rw [ha0]; rfl
  have z1 : a0.eval (.tmp 1) = .int .i64 ((i : Int)) := by rw [ha0]; rfl
  have z6 : a0.eval (.tmp 6) = .bool false := by rw [ha0]; rfl
  refine wrD [] slotsPlkf1 waitPlkf1 [Fct.val Flz 0 (.pointer (some ⟨g, 0, none⟩)), Fct.val Flz 1 (.pointer (some ⟨g, 0, none⟩)), Fct.val Flz 2 (.pointer (some ⟨g, 2, none⟩)), Fct.val Flz 3 (vA), Fct.val Flz 4 (.int .i64 ((i : Int))), Fct.val Flz 5 (.bool false), Fct.val Flz 6 (.bool false), Fct.val Flz 7 (undef), Fct.val Flz 8 (undef), Fct.val Flz 9 (undef), Fct.val Flz 10 (undef), Fct.val Flz 11 (undef), Fct.val Flz 12 (.bool false), Fct.val Flz 13 (.pointer (some ((⟨ga, 0, none⟩ : Addr).add (i * 1))))] (fun w' => Below u2.drew.heap.size u2.drew w') _ 14 1 chkPlkf1 (by kernel_rfl) (by kernel_rfl) (by kernel_rfl) (by kernel_rfl) (by decide) (Below.refl _ _) ?_ ?_
  ·refine lt_s (lt_s (lt_s (lt_s (lt_s (lt_s (lt_s (lt_s (lt_s (lt_s (lt_s (lt_s (lt_s (lt_s (lt_0) ?_) ?_) ?_) ?_) ?_) ?_) ?_) ?_) ?_) ?_) ?_) ?_) ?_) ?_
   ·intro f w1 hS hf aA hA
    have r0 := qO 0 hA z0
    exact fV rfl rfl _ (ex_move (.tmp 0) rfl r0) hS uS
   ·intro f w1 hS hf aA hA
    have r20 := qA 20 0 hA sbPlkf1 zsz (hf 0 (by decide))
    exact fV rfl rfl _ (ex_nil (.tmp 20) rfl g 0 r20) hS uS
   ·intro f w1 hS hf aA hA
    have r21 := qA 21 1 hA sbPlkf1 zsz (hf 1 (by decide))
    exact fV rfl rfl _ (fldP1 (.tmp 21) rfl g r21) hS uS
   ·intro f w1 hS hf aA hA
    have r22 := qA 22 2 hA sbPlkf1 zsz (hf 2 (by decide))
    exact fV rfl rfl _ (ex_load1 64 (.tmp 22) rfl ⟨g, 2, none⟩ r22 (fun _ => by kernel_rfl) ((HP.out.box.keepB hS).cellv rfl)) hS uS
   ·intro f w1 hS hf aA hA
    have r1 := qO 1 hA z1
    exact fV rfl rfl _ (ex_move (.tmp 1) rfl r1) hS uS
   ·intro f w1 hS hf aA hA
    have r6 := qO 6 hA z6
    exact fV rfl rfl _ (ex_move (.tmp 6) rfl r6) hS uS
   ·intro f w1 hS hf aA hA
    have r25 := qA 25 5 hA sbPlkf1 zsz (hf 5 (by decide))
    exact fV rfl rfl _ (ex_move (.tmp 25) rfl r25) hS uS
   ·intro f w1 hS hf aA hA
    have t26 := qG 26 6 hA sbPlkf1 zsz (hf 6 (by decide))
    exact flw_skip rfl ((wanted_of rfl 26 rfl t26).trans rfl) hS (Flz.refl _) uS
   ·intro f w1 hS hf aA hA
    have t26 := qG 26 6 hA sbPlkf1 zsz (hf 6 (by decide))
    exact flw_skip rfl ((wanted_of rfl 26 rfl t26).trans rfl) hS (Flz.refl _) uS
   ·intro f w1 hS hf aA hA
    have t26 := qG 26 6 hA sbPlkf1 zsz (hf 6 (by decide))
    exact flw_skip rfl ((wanted_of rfl 26 rfl t26).trans rfl) hS (Flz.refl _) uS
   ·intro f w1 hS hf aA hA
    have t26 := qG 26 6 hA sbPlkf1 zsz (hf 6 (by decide))
    exact flw_skip rfl ((wanted_of rfl 26 rfl t26).trans rfl) hS (Flz.refl _) uS
   ·intro f w1 hS hf aA hA
    have t26 := qG 26 6 hA sbPlkf1 zsz (hf 6 (by decide))
    exact flw_skip rfl ((wanted_of rfl 26 rfl t26).trans rfl) hS (Flz.refl _) uS
   ·intro f w1 hS hf aA hA
    have r26 := qA 26 6 hA sbPlkf1 zsz (hf 6 (by decide))
    exact fV rfl rfl (.bool false) (ex_pick (.tmp 26) (.tmp 31) _ rfl false r26 ((if_neg (by decide)).trans rfl)) hS uS
   ·intro f w1 hS hf aA hA
    have r23 := qA 23 3 hA sbPlkf1 zsz (hf 3 (by decide))
    have r24 := qA 24 4 hA sbPlkf1 zsz (hf 4 (by decide))
    exact fV rfl rfl _ (ex_indexS 64 4 (.tmp 23) (.tmp 24) rfl (⟨ga, 0, none⟩ : Addr) A.length A.length i 1 (by kernel_rfl) (fun _ => by kernel_rfl) (Eq.trans r23 HAV.out) r24 HIA.out) hS uS
  intro f u3 hS hf hap
  have h0 := eqL (hf 0 (by decide)) rfl
  have h1 := eqL (hf 1 (by decide)) rfl
  have h2 := eqL (hf 2 (by decide)) rfl
  have h3 := eqL (hf 3 (by decide)) rfl
  have h4 := eqL (hf 4 (by decide)) rfl
  have h5 := eqL (hf 5 (by decide)) rfl
  have h6 := eqL (hf 6 (by decide)) rfl
  have h7 := eqL (hf 7 (by decide)) rfl
  have h8 := eqL (hf 8 (by decide)) rfl
  have h9 := eqL (hf 9 (by decide)) rfl
  have h10 := eqL (hf 10 (by decide)) rfl
  have h11 := eqL (hf 11 (by decide)) rfl
  have h12 := eqL (hf 12 (by decide)) rfl
  have h13 := eqL (hf 13 (by decide)) rfl
  clear hf hap
  clear zsz z0 z1 z6
  subst ha0
  simp only [slotsPlkf1, putAll, h0, h1, h2, h3, h4, h5, h6, h7, h8, h9, h10, h11, h12, h13, Act.put, List.setIfInBounds_toArray, List.set_cons_zero, List.set_cons_succ]
  clear h0 h1 h2 h3 h4 h5 h6 h7 h8 h9 h10 h11 h12 h13
  have HP3 := Lib.hid (HP.out.keep hS)
  have HGR3 := Lib.hid (HGR.out.bel hS)
  clear HP HGR HB hS
  refine tl_step rfl rfl (fun K hK => wp_store_b (.tmp 33) (.tmp 32) rfl b vA A HP3.out.bools ga A.length A.length i HAV.out HIA.out rfl (false) rfl (fun w9 hR hbl hoff => hK _ _ ?_))
  have HP9 := Lib.hid (HP3.out.bool HAV.out hR hoff)
  have HG9 : Hid (u3.grownBy w9 vA.ownBlock) := Lib.hid (by
   have h0 := hbl 0 (Nat.zero_le _)
   exact ⟨h0.os, h0.tape, h0.output, h0.size, fun k _ hk => hoff k fun e => hk (by rw [HAV.out, e]; rfl)⟩)
  have HAL : Hid (alone s L.length c i = (false)) := Lib.hid (by unfold alone; rw [HPU.out]; rfl)
  clear hR hbl hoff HP3
  refine tl_nilN ?_
  try simp only [Act.put]
  go_wp2_with fail
  go_end0
  refine ⟨⟨_, rfl⟩, ?_, HGR3.out.tr HG9.out⟩
  rw [HAL.out]
  exact HP9.out
 ·go_upto_region 0 with fail
  refine wp_act (fun a0 ha0 => ?_)
  have zsz : a0.tmps.size = 34 := by rw [ha0]; rfl
  have z0 : a0.eval (.tmp 0) = .pointer (some ⟨g, 0, none⟩) := by rw [ha0]; rfl
  have z1 : a0.eval (.tmp 1) = .int .i64 ((i : Int)) := by rw [ha0]; rfl
  refine wrO [] slotsPlkf0 waitPlkf0 [Fct.val Flz 0 (.pointer (some ⟨g, 0, none⟩)), Fct.val Flz 1 (.pointer (some ⟨g, 0, none⟩)), Fct.val Flz 2 (.pointer (some ⟨g, 0, none⟩)), Fct.val Flz 3 (.pointer (some ⟨g, 1, none⟩)), Fct.val Flz 4 (vL), Fct.val Flz 5 (.int .i64 ((i : Int))), Fct.val Flz 6 (.pointer (some ((⟨gc, 0, none⟩ : Addr).add (i * 65)))), Fct.val Flz 7 (aggC c), Fct.val Flz 8 (.tuple #[.agg (encU c.2.1).toArray, .bool (c.1 == 1), .bool true]), Fct.val Flz 9 (.tuple #[.agg (encU c.2.1).toArray, .bool (c.1 == 1), .bool true]), Fct.val Flz 10 (.agg (encU c.2.1).toArray), Fct.val Flz 11 (.bool (c.1 == 1)), Fct.val Flz 12 (.bool true), Fct.obj 13 (fun v w => ∃ g, v = .pointer (some ⟨g, 0, none⟩) ∧ w0.heap.size ≤ g ∧ Has w g 42 (encU zS)) (fun _ _ _ ⟨g, a, b, c⟩ he => ⟨g, a, b, c.flz he (by decide)⟩)] (fun w' => Below w0.heap.size w0 w') _ 14 3 chkPlkf0 (by kernel_rfl) (by kernel_rfl) (by kernel_rfl) (by decide) (Below.refl _ _) ?_ ?_
  ·refine lt_s (lt_s (lt_s (lt_s (lt_s (lt_s (lt_s (lt_s (lt_s (lt_s (lt_s (lt_s (lt_s (lt_s (lt_0) ?_) ?_) ?_) ?_) ?_) ?_) ?_) ?_) ?_) ?_) ?_) ?_) ?_) ?_
   ·intro f w1 hS hf aA hA
    have r0 := qO 0 hA z0
    exact fV rfl rfl _ (ex_move (.tmp 0) rfl r0) hS uS
   ·intro f w1 hS hf aA hA
    have r8 := qA 8 0 hA sbPlkf0 zsz (hf 0 (by decide))
    exact fV rfl rfl _ (ex_nil (.tmp 8) rfl g 0 r8) hS uS
   ·intro f w1 hS hf aA hA
    have r9 := qA 9 1 hA sbPlkf0 zsz (hf 1 (by decide))
    exact fV rfl rfl _ (fldP0 (.tmp 9) rfl g r9) hS uS
   ·intro f w1 hS hf aA hA
    have r10 := qA 10 2 hA sbPlkf0 zsz (hf 2 (by decide))
    exact fV rfl rfl _ (fldT1 28 (Or.inl rfl) (.tmp 10) rfl g r10) hS uS
   ·intro f w1 hS hf aA hA
    have r11 := qA 11 3 hA sbPlkf0 zsz (hf 3 (by decide))
    exact fV rfl rfl _ (ex_load1 26 (.tmp 11) rfl ⟨g, 1, none⟩ r11 (fun _ => by kernel_rfl) ((HP.out.box.keepB hS).cellv rfl)) hS uS
   ·intro f w1 hS hf aA hA
    have r1 := qO 1 hA z1
    exact fV rfl rfl _ (ex_move (.tmp 1) rfl r1) hS uS
   ·intro f w1 hS hf aA hA
    have r12 := qA 12 4 hA sbPlkf0 zsz (hf 4 (by decide))
    have r13 := qA 13 5 hA sbPlkf0 zsz (hf 5 (by decide))
    exact fV rfl rfl _ (ex_indexS 26 47 (.tmp 12) (.tmp 13) rfl (⟨gc, 0, none⟩ : Addr) L.length cap i 65 (by kernel_rfl) (fun _ => by kernel_rfl) (Eq.trans r12 HGV.out) r13 hi) hS uS
   ·intro f w1 hS hf aA hA
    have r14 := qA 14 6 hA sbPlkf0 zsz (hf 6 (by decide))
    exact fV rfl rfl _ (ex_loadR 47 (.tmp 14) rfl ((⟨gc, 0, none⟩ : Addr).add (i * 65)) r14 (fun _ => by kernel_rfl) (encC c) (by rw [encC_len]; kernel_rfl) (HEL.out w1 hS.block)) hS uS
   ·intro f w1 hS hf aA hA
    have r15 := qA 15 7 hA sbPlkf0 zsz (hf 7 (by decide))
    exact fC rfl rfl 53 #[(.tmp 15)] _ rfl #[aggC c] (mp1 r15) (fun w => by kernel_rfl) _ (as_any (pure_any c w1 (HL.out.keep (HB.out.trans (hS.mono HB.out.size)) HSZ.out)) (pureV_on HPU.out)) hS (fun _ _ h => uS.trans h)
   ·intro f w1 hS hf aA hA
    have r16 := qA 16 8 hA sbPlkf0 zsz (hf 8 (by decide))
    exact fV rfl rfl _ (ex_move (.tmp 16) rfl r16) hS uS
   ·intro f w1 hS hf aA hA
    have r7 := qA 7 9 hA sbPlkf0 zsz (hf 9 (by decide))
    exact fV rfl rfl _ (ex_extract (.tmp 7) 0 rfl r7 rfl) hS uS
   ·intro f w1 hS hf aA hA
    have r7 := qA 7 9 hA sbPlkf0 zsz (hf 9 (by decide))
    exact fV rfl rfl _ (ex_extract (.tmp 7) 1 rfl r7 rfl) hS uS
   ·intro f w1 hS hf aA hA
    have r7 := qA 7 9 hA sbPlkf0 zsz (hf 9 (by decide))
    exact fV rfl rfl _ (ex_extract (.tmp 7) 2 rfl r7 rfl) hS uS
   ·intro f w1 hS hf aA hA
    exact flw_wp rfl rfl (fun K hK => wp_alloc_row 42 rfl (.agg (encU zS).toArray) (fun w => by kernel_rfl) (hK _ _ (hS.alloc hS.size _) (Flz.al _ _) ⟨_, uS, hS.size, Has.made' _ _ _ _ rfl⟩))
  intro f u1 hS hf hap
  have h0 := eqL (hf 0 (by decide)) rfl
  have h1 := eqL (hf 1 (by decide)) rfl
  have h2 := eqL (hf 2 (by decide)) rfl
  have h3 := eqL (hf 3 (by decide)) rfl
  have h4 := eqL (hf 4 (by decide)) rfl
  have h5 := eqL (hf 5 (by decide)) rfl
  have h6 := eqL (hf 6 (by decide)) rfl
  have h7 := eqL (hf 7 (by decide)) rfl
  have h8 := eqL (hf 8 (by decide)) rfl
  have h9 := eqL (hf 9 (by decide)) rfl
  have h10 := eqL (hf 10 (by decide)) rfl
  have h11 := eqL (hf 11 (by decide)) rfl
  have h12 := eqL (hf 12 (by decide)) rfl
  obtain ⟨b0_13, h13, hgb13, hhb13⟩ := hf 13 (by decide)
  clear hf hap
  clear zsz z0 z1
  subst ha0
  simp only [slotsPlkf0, putAll, h0, h1, h2, h3, h4, h5, h6, h7, h8, h9, h10, h11, h12, h13, Act.put, List.setIfInBounds_toArray, List.set_cons_zero, List.set_cons_succ]
  clear h0 h1 h2 h3 h4 h5 h6 h7 h8 h9 h10 h11 h12 h13
  refine tl_store rfl (by kernel_rfl) 42 (.tmp 4) (.tmp 17) rfl b0_13 (encU c.2.1) _ rfl rfl _ hhb13 (by rw [encU_len]; kernel_rfl) (by simp only [encU_len]) (encU_all _) ?_
  intro u2 hp13 hbl hot
  replace hS := hS.trans (hbl _ hgb13)
  clear hbl hot hhb13
  try simp only [Act.put]
  refine tl_pure rfl (by kernel_rfl) (.bool (c.1 == 1)) (ex_assign (.tmp 18) rfl rfl) ?_
  try simp only [Act.put, List.setIfInBounds_toArray, List.set_cons_zero, List.set_cons_succ]
  refine tl_pure rfl (by kernel_rfl) (.bool true) (ex_assign (.tmp 19) rfl rfl) ?_
  try simp only [Act.put, List.setIfInBounds_toArray, List.set_cons_zero, List.set_cons_succ]
  refine tl_nil ?_
  replace HP := Lib.hid (HP.out.keep hS)
  replace HGR := Lib.hid (HGR.out.bel hS)
  have HBW := Lib.hid HB.out.size
  replace HB := Lib.hid (HB.out.trans (hS.mono HB.out.size))
  clear hS
  have HGb0_13 : Hid (w.heap.size ≤ b0_13) := Lib.hid (Nat.le_trans HBW.out hgb13)
  have HX_b0_13 : Hid (Has u2 b0_13 42 (encU c.2.1)) := Lib.hid hp13
  clear hp13 hgb13
  clear HBW
  obtain ⟨ga, hav, _, _, _⟩ := HP.out.bools.el HIA.out
  have HAV := Lib.hid hav
  clear hav
  obtain ⟨pl, hpl⟩ : ∃ pl, pl = places s ((L).length : Int) c.2.1 := ⟨_, rfl⟩
  have HPL : Hid ((places s ((L).length : Int) c.2.1).length ≤ 1000000) := Lib.hid (Nat.le_trans (places_small _ _ _) (by decide))
  clear hpl
  go_upto_region 1 with fail
  have HST : Hid (Below u2.heap.size u2 u2.drew) := Lib.hid (Below.refl _ _).drew
  replace HP := Lib.hid (HP.out.keep HST.out)
  replace HGR := Lib.hid (HGR.out.bel HST.out)
  replace HX_b0_13 := Lib.hid (HX_b0_13.out.keepB HST.out)
  replace HB := Lib.hid (HB.out.trans (HST.out.mono HB.out.size))
  clear HST
  refine wp_act (fun a0 ha0 => ?_)
  have zsz : a0.tmps.size = 34 := by rw [ha0]; rfl
  have z0 : a0.eval (.tmp 0) = .pointer (some ⟨g, 0, none⟩) := by rw [ha0]; rfl
  have z1 : a0.eval (.tmp 1) = .int .i64 ((i : Int)) := by rw [ha0]; rfl
  have z6 : a0.eval (.tmp 6) = .bool true := by rw [ha0]; rfl
  have z4 : a0.eval (.tmp 4) = .pointer (some ⟨b0_13, 0, none⟩) := by rw [ha0]; rfl
  refine wrD [] slotsPlkt1 waitPlkt1 [Fct.val Flz 0 (.pointer (some ⟨g, 0, none⟩)), Fct.val Flz 1 (.pointer (some ⟨g, 0, none⟩)), Fct.val Flz 2 (.pointer (some ⟨g, 2, none⟩)), Fct.val Flz 3 (vA), Fct.val Flz 4 (.int .i64 ((i : Int))), Fct.val Flz 5 (.bool true), Fct.val Flz 6 (.bool true), Fct.val Flz 7 (.pointer (some ⟨g, 0, none⟩)), Fct.val Flz 8 (.agg (encU c.2.1).toArray), Fct.obj 9 (fun v w => ∃ zz, v = zz ∧ InsF u2.drew.heap.size w zz (places s ((L).length : Int) c.2.1)) (fun _ _ _ ⟨zz, a, b⟩ he => ⟨zz, a, b.flz he⟩), Fct.val Flz 10 (.int .i64 ((i : Int))), Fct.val Flz 11 (.bool ((places s ((L).length : Int) c.2.1).contains (i : Int))), Fct.val Flz 12 (.bool ((places s ((L).length : Int) c.2.1).contains (i : Int))), Fct.val Flz 13 (.pointer (some ((⟨ga, 0, none⟩ : Addr).add (i * 1))))] (fun w' => Below u2.drew.heap.size u2.drew w') _ 14 1 chkPlkt1 (by kernel_rfl) (by kernel_rfl) (by kernel_rfl) (by kernel_rfl) (by decide) (Below.refl _ _) ?_ ?_
  ·refine lt_s (lt_s (lt_s (lt_s (lt_s (lt_s (lt_s (lt_s (lt_s (lt_s (lt_s (lt_s (lt_s (lt_s (lt_0) ?_) ?_) ?_) ?_) ?_) ?_) ?_) ?_) ?_) ?_) ?_) ?_) ?_) ?_
   ·intro f w1 hS hf aA hA
    have r0 := qO 0 hA z0
    exact fV rfl rfl _ (ex_move (.tmp 0) rfl r0) hS uS
   ·intro f w1 hS hf aA hA
    have r20 := qA 20 0 hA sbPlkt1 zsz (hf 0 (by decide))
    exact fV rfl rfl _ (ex_nil (.tmp 20) rfl g 0 r20) hS uS
   ·intro f w1 hS hf aA hA
    have r21 := qA 21 1 hA sbPlkt1 zsz (hf 1 (by decide))
    exact fV rfl rfl _ (fldP1 (.tmp 21) rfl g r21) hS uS
   ·intro f w1 hS hf aA hA
    have r22 := qA 22 2 hA sbPlkt1 zsz (hf 2 (by decide))
    exact fV rfl rfl _ (ex_load1 64 (.tmp 22) rfl ⟨g, 2, none⟩ r22 (fun _ => by kernel_rfl) ((HP.out.box.keepB hS).cellv rfl)) hS uS
   ·intro f w1 hS hf aA hA
    have r1 := qO 1 hA z1
    exact fV rfl rfl _ (ex_move (.tmp 1) rfl r1) hS uS
   ·intro f w1 hS hf aA hA
    have r6 := qO 6 hA z6
    exact fV rfl rfl _ (ex_move (.tmp 6) rfl r6) hS uS
   ·intro f w1 hS hf aA hA
    have r25 := qA 25 5 hA sbPlkt1 zsz (hf 5 (by decide))
    exact fV rfl rfl _ (ex_move (.tmp 25) rfl r25) hS uS
   ·intro f w1 hS hf aA hA
    have t26 := qG 26 6 hA sbPlkt1 zsz (hf 6 (by decide))
    have r0 := qO 0 hA z0
    exact fV rfl ((wanted_of rfl 26 rfl t26).trans rfl) _ (ex_move (.tmp 0) rfl r0) hS uS
   ·intro f w1 hS hf aA hA
    have t26 := qG 26 6 hA sbPlkt1 zsz (hf 6 (by decide))
    have r4 := qO 4 hA z4
    exact fV rfl ((wanted_of rfl 26 rfl t26).trans rfl) _ (ex_loadR 42 (.tmp 4) rfl ⟨b0_13, 0, none⟩ r4 (fun _ => by kernel_rfl) (encU c.2.1) (by rw [encU_len]; kernel_rfl) ((HX_b0_13.out.keepB hS).part (encU c.2.1) 0 (encU_all' c.2.1))) hS uS
   ·intro f w1 hS hf aA hA
    have t26 := qG 26 6 hA sbPlkt1 zsz (hf 6 (by decide))
    have r27 := qA 27 7 hA sbPlkt1 zsz (hf 7 (by decide))
    have r28 := qA 28 8 hA sbPlkt1 zsz (hf 8 (by decide))
    exact fC rfl ((wanted_of rfl 26 rfl t26).trans rfl) 54 #[(.tmp 27), (.tmp 28)] _ rfl #[.pointer (some ⟨g, 0, none⟩), .agg (encU c.2.1).toArray] (mp2 r27 r28) (fun w => by kernel_rfl) _ (placesP_in b g s L A P M vL vA vP vM c.2.1 w1 HSD.out (HL.out.keep (HB.out.trans (hS.mono HB.out.size)) HSZ.out) (HP.out.keep hS) u2.drew.heap.size hS.size) hS (fun _ _ ⟨zz, a, b⟩ => ⟨zz, uS.trans a, b⟩)
   ·intro f w1 hS hf aA hA
    have t26 := qG 26 6 hA sbPlkt1 zsz (hf 6 (by decide))
    have r1 := qO 1 hA z1
    exact fV rfl ((wanted_of rfl 26 rfl t26).trans rfl) _ (ex_move (.tmp 1) rfl r1) hS uS
   ·intro f w1 hS hf aA hA
    have t26 := qG 26 6 hA sbPlkt1 zsz (hf 6 (by decide))
    obtain ⟨x29, hx29, hr29⟩ := hf 9 (by decide)
    have e29 := pA 29 9 hA sbPlkt1 (by kernel_rfl) zsz rfl hx29
    have r30 := qA 30 10 hA sbPlkt1 zsz (hf 10 (by decide))
    exact fC rfl ((wanted_of rfl 26 rfl t26).trans rfl) 69 #[(.tmp 29), (.tmp 30)] _ rfl #[x29, .int .i64 ((i : Int))] (mp2 e29 r30) (fun w => by kernel_rfl) _ (hasI_any _ (places s ((L).length : Int) c.2.1) (i : Int) w1 HPL.out (Ins.zero hr29)) hS (fun _ _ h => uS.trans h)
   ·intro f w1 hS hf aA hA
    have r26 := qA 26 6 hA sbPlkt1 zsz (hf 6 (by decide))
    have r31 := qA 31 11 hA sbPlkt1 zsz (hf 11 (by decide))
    exact fV rfl rfl (.bool ((places s ((L).length : Int) c.2.1).contains (i : Int))) (ex_pick (.tmp 26) (.tmp 31) _ rfl true r26 ((if_pos rfl).trans r31)) hS uS
   ·intro f w1 hS hf aA hA
    have r23 := qA 23 3 hA sbPlkt1 zsz (hf 3 (by decide))
    have r24 := qA 24 4 hA sbPlkt1 zsz (hf 4 (by decide))
    exact fV rfl rfl _ (ex_indexS 64 4 (.tmp 23) (.tmp 24) rfl (⟨ga, 0, none⟩ : Addr) A.length A.length i 1 (by kernel_rfl) (fun _ => by kernel_rfl) (Eq.trans r23 HAV.out) r24 HIA.out) hS uS
  intro f u3 hS hf hap
  have h0 := eqL (hf 0 (by decide)) rfl
  have h1 := eqL (hf 1 (by decide)) rfl
  have h2 := eqL (hf 2 (by decide)) rfl
  have h3 := eqL (hf 3 (by decide)) rfl
  have h4 := eqL (hf 4 (by decide)) rfl
  have h5 := eqL (hf 5 (by decide)) rfl
  have h6 := eqL (hf 6 (by decide)) rfl
  have h7 := eqL (hf 7 (by decide)) rfl
  have h8 := eqL (hf 8 (by decide)) rfl
  obtain ⟨v1_9, h9, hu9⟩ := hf 9 (by decide)
  have HU1_9 := Lib.hid hu9
  clear hu9
  have h10 := eqL (hf 10 (by decide)) rfl
  have h11 := eqL (hf 11 (by decide)) rfl
  have h12 := eqL (hf 12 (by decide)) rfl
  have h13 := eqL (hf 13 (by decide)) rfl
  clear hf hap
  clear zsz z0 z1 z6 z4
  subst ha0
  simp only [slotsPlkt1, putAll, h0, h1, h2, h3, h4, h5, h6, h7, h8, h9, h10, h11, h12, h13, Act.put, List.setIfInBounds_toArray, List.set_cons_zero, List.set_cons_succ]
  clear h0 h1 h2 h3 h4 h5 h6 h7 h8 h9 h10 h11 h12 h13
  have HP3 := Lib.hid (HP.out.keep hS)
  have HGR3 := Lib.hid (HGR.out.bel hS)
  clear HP HGR HB hS
  refine tl_step rfl rfl (fun K hK => wp_store_b (.tmp 33) (.tmp 32) rfl b vA A HP3.out.bools ga A.length A.length i HAV.out HIA.out rfl ((places s ((L).length : Int) c.2.1).contains (i : Int)) rfl (fun w9 hR hbl hoff => hK _ _ ?_))
  have HP9 := Lib.hid (HP3.out.bool HAV.out hR hoff)
  have HG9 : Hid (u3.grownBy w9 vA.ownBlock) := Lib.hid (by
   have h0 := hbl 0 (Nat.zero_le _)
   exact ⟨h0.os, h0.tape, h0.output, h0.size, fun k _ hk => hoff k fun e => hk (by rw [HAV.out, e]; rfl)⟩)
  have HAL : Hid (alone s L.length c i = ((places s ((L).length : Int) c.2.1).contains (i : Int))) := Lib.hid (by unfold alone; rw [HPU.out]; rfl)
  clear hR hbl hoff HP3
  refine tl_nilN ?_
  try simp only [Act.put]
  go_wp2_with fail
  go_end0
  refine ⟨⟨_, rfl⟩, ?_, HGR3.out.tr HG9.out⟩
  rw [HAL.out]
  exact HP9.out
end Go.Proofs.YtnkcehmgagpadaaDoor
/- Contract: package peel's begin. Conditions: the sums' tables are laid; a seed of 64 bits; at most 10^6 cells. -/
namespace Go.Proofs.YtnkcehmgagpadaaDoor
open Go.RowKit
theorem RowB.base {b : Nat} {w : World} {v : Value} {A : List Bool} (h : RowB b w v A) : ∀ k, Value.ownBlock v = some k → b ≤ k := fun k hk => by
 obtain ⟨g, rfl, h2, _⟩ := h
 obtain rfl : g = k := Option.some.inj hk
 exact h2
theorem RowB.sl {b : Nat} {w : World} {v : Value} {A : List Bool} (h : RowB b w v A) : ∃ q n c, v = .slice q n c := by obtain ⟨g, h1, _⟩ := h; exact ⟨_, _, _, h1⟩
theorem builtP (s : Int) {u v : Value} (hu : ∃ q n c, u = .slice q n c) (hv : ∃ q n c, v = .slice q n c) : Tryd.prog.built 66 [(0, .agg #[.int .u64 s, u]), (1, v)] = some #[.int .u64 s, u, v, .slice none 0 0, .slice none 0 0] := by
 obtain ⟨q, n, c, rfl⟩ := hu
 obtain ⟨q', n', c', rfl⟩ := hv
 kernel_rfl
/-- What is looked at so far. -/
def aloneTo (s : Nat) (L : List Ce) (i : Nat) : List Bool := (aloneL s L).take i ++ (List.replicate L.length false).drop i
theorem aloneTo_len (s : Nat) (L : List Ce) (i : Nat) (h : i ≤ L.length) : (aloneTo s L i).length = L.length := by unfold aloneTo; rw [List.length_append, List.length_take, List.length_drop, List.length_replicate, aloneL_len]; omega
theorem aloneTo_zero (s : Nat) (L : List Ce) : aloneTo s L 0 = List.replicate L.length false := by unfold aloneTo; simp
theorem aloneTo_all (s : Nat) (L : List Ce) : aloneTo s L L.length = aloneL s L := by unfold aloneTo; rw [List.take_of_length_le (by rw [aloneL_len]; exact Nat.le_refl _), List.drop_of_length_le (by rw [List.length_replicate]; exact Nat.le_refl _), List.append_nil]
theorem aloneTo_succ (s : Nat) (L : List Ce) (i : Nat) (h : i < L.length) : (aloneTo s L i).set i (alone s L.length L[i] i) = aloneTo s L (i + 1) := by
 have h1 : ((aloneL s L).take i).length = i := by rw [List.length_take, aloneL_len]; omega
 unfold aloneTo
 rw [List.set_append_right i _ (by rw [h1]; exact Nat.le_refl _), h1, Nat.sub_self, List.drop_eq_getElem_cons (show i < (List.replicate L.length false).length by rw [List.length_replicate]; exact h), List.set_cons_zero, List.take_succ_eq_append_getElem (show i < (aloneL s L).length by rw [aloneL_len]; exact h), aloneL_get s L i h, List.append_assoc]
 rfl
def waitPbe1 (i : Nat) : List Nat := ([[], [], [1], [1, 2], [1, 2, 3], [0, 1, 2, 3, 4], [0, 1, 2, 3, 4, 5], [0, 1, 2, 3, 4, 5, 6]] : List (List Nat)).getD i []
def slotsPbe1 : List (Nat × Nat) := [(5, 0), (6, 1), (7, 2), (8, 3), (9, 4), (10, 5), (11, 6), (3, 7)]
theorem sbPbe1 : slotsB slotsPbe1 = true := by kernel_rfl
theorem chkPbe1 : flwB slotsPbe1 waitPbe1 5 (regOf Tryd.f26.body 1) = true := by kernel_rfl
def waitPbe2 (i : Nat) : List Nat := ([[], [], [1], [2], [0], [4], [5], [0, 1, 2, 3, 4, 5, 6]] : List (List Nat)).getD i []
def slotsPbe2 : List (Nat × Nat) := [(12, 0), (13, 1), (14, 2), (15, 3), (16, 4), (17, 5), (18, 6)]
theorem sbPbe2 : slotsB slotsPbe2 = true := by kernel_rfl
theorem chkPbe2 : flwO slotsPbe2 waitPbe2 7 (regOf Tryd.f26.body 2) = true := by kernel_rfl
def waitPbe3 (i : Nat) : List Nat := ([[], [0], [1], [2], [3], []] : List (List Nat)).getD i []
def slotsPbe3 : List (Nat × Nat) := [(19, 0), (20, 1), (21, 2), (22, 3), (23, 4), (24, 5)]
theorem sbPbe3 : slotsB slotsPbe3 = true := by kernel_rfl
theorem chkPbe3 : flwO slotsPbe3 waitPbe3 6 (regOf Tryd.f26.body 3) = true := by kernel_rfl
def waitPbe5 (i : Nat) : List Nat := ([[], [0]] : List (List Nat)).getD i []
def slotsPbe5 : List (Nat × Nat) := [(26, 0), (4, 1)]
theorem sbPbe5 : slotsB slotsPbe5 = true := by kernel_rfl
theorem chkPbe5 : flwO slotsPbe5 waitPbe5 2 (regOf Tryd.f26.body 5) = true := by kernel_rfl
def waitPbe6 (i : Nat) : List Nat := ([[], [], [0, 1]] : List (List Nat)).getD i []
def slotsPbe6 : List (Nat × Nat) := [(27, 0), (28, 1), (29, 2)]
theorem chkPbe6 : flwO slotsPbe6 waitPbe6 2 (regOf Tryd.f26.body 6) = true := by kernel_rfl
set_option maxHeartbeats 16000000 in
set_option maxRecDepth 100000 in
theorem beginP_any (s : Nat) (v : Value) (L : List Ce) (w : World) (hs : s < 18446744073709551616) (hL : Laid w) (hM : L.length ≤ 1000000) (hC : Cs w v L) :
  Calls Tryd.prog 26 #[.agg #[.int .u64 (s : Int), v]] w fun e w' => (∃ g, e = .returned (.pointer (some ⟨g, 0, none⟩)) ∧ ∃ vL vA, PeS w.heap.size w' g s L (aloneL s L) [] [] vL vA (.slice none 0 0) (.slice none 0 0)) ∧ Below w.heap.size w w' := by
 have HB := Lib.hid (Below.refl w.heap.size w)
 have HL := Lib.hid hL
 have HSZ := Lib.hid hL.size
 have HSD := Lib.hid hs
 have HM := Lib.hid hM
 have HC := Lib.hid hC
 have HWW : Hid (w.heap.size ≤ w.heap.size) := Lib.hid (Nat.le_refl _)
 clear hL hs hM hC
 obtain ⟨w0, hw0⟩ : ∃ w0, w0 = w := ⟨_, rfl⟩
 rw [show (Calls Tryd.prog 26 #[.agg #[.int .u64 (s : Int), v]] w : (Ending → World → Prop) → Prop) = Calls Tryd.prog 26 #[.agg #[.int .u64 (s : Int), v]] w0 by rw [hw0]]
 have HB : Hid (Below w.heap.size w w0) := Lib.hid (by rw [hw0]; exact HB.out)
 clear hw0
 go_enter Tryd.func26, Tryd.ntmps26
 go_upto_region 0 with fail
 refine wp_region_lit ?_
 try simp only [Act.put, List.setIfInBounds_toArray, List.set_cons_zero, List.set_cons_succ]
 refine lp_step rfl (fun K hK => wp_box_row 28 (.tmp 0) rfl (.agg #[.int .u64 (s : Int), v]) rfl (hK _ _ ?_))
 try simp only [Act.put, List.setIfInBounds_toArray, List.set_cons_zero, List.set_cons_succ]
 show wpList _ _ _ _ _ (w0.alloc (.cells (([.int .u64 (s : Int), v] : List Value)).toArray 28))
 have HST : Hid (Below w0.heap.size w0 (w0.alloc (.cells (([.int .u64 (s : Int), v] : List Value)).toArray 28))) := Lib.hid ((Below.refl _ _).alloc (Nat.le_refl _) _)
 have HX1 : Hid (Has (w0.alloc (.cells (([.int .u64 (s : Int), v] : List Value)).toArray 28)) w0.heap.size 28 ([.int .u64 (s : Int), v])) := Lib.hid (Has.made' _ _ _ _ rfl)
 have HGg1 : Hid (w.heap.size ≤ w0.heap.size) := Lib.hid HB.out.size
 replace HB := Lib.hid (HB.out.trans (HST.out.mono HB.out.size))
 clear HST
 generalize w0.alloc (.cells (([.int .u64 (s : Int), v] : List Value)).toArray 28) = w1 at *
 generalize w0.heap.size = g1 at *
 refine lp_pure (v := .pointer none) rfl (ex_assign _ rfl rfl) ?_
 try simp only [Act.put, List.setIfInBounds_toArray, List.set_cons_zero, List.set_cons_succ]
 refine wpList_nil ?_
 obtain ⟨y1, hz1⟩ : ∃ z, z = w1 := ⟨_, rfl⟩
 subst hz1
 have HBW : Hid (w.heap.size ≤ y1.heap.size) := Lib.hid HB.out.size
 go_upto_region 1 with fail
 have HST : Hid (Below y1.heap.size y1 y1.drew) := Lib.hid (Below.refl _ _).drew
 replace HX1 := Lib.hid (HX1.out.keepB HST.out)
 replace HB := Lib.hid (HB.out.trans (HST.out.mono HB.out.size))
 clear HST
 refine wp_act (fun a0 ha0 => ?_)
 have zsz : a0.tmps.size = 32 := by rw [ha0]; rfl
 have z1 : a0.eval (.tmp 1) = .pointer (some ⟨g1, 0, none⟩) := by rw [ha0]; rfl
 refine wrD [] slotsPbe1 waitPbe1 [Fct.val Flz 0 (.agg #[.int .u64 (s : Int), v]), Fct.val Flz 1 (.pointer (some ⟨g1, 1, none⟩)), Fct.val Flz 2 (v), Fct.val Flz 3 (.int .i64 (((L).length : Int))), Fct.obj 4 (fun v w => ∃ zz, v = zz ∧ RowB y1.drew.heap.size w zz (List.replicate L.length false)) (fun _ _ _ ⟨zz, a, b⟩ he => ⟨zz, a, b.flz he⟩)] (fun w' => Below y1.drew.heap.size y1.drew w') _ 5 3 chkPbe1 (by kernel_rfl) (by kernel_rfl) (by kernel_rfl) (by kernel_rfl) (by decide) (Below.refl _ _) ?_ ?_
 ·refine lt_s (lt_s (lt_s (lt_s (lt_s (lt_0) ?_) ?_) ?_) ?_) ?_
  ·intro f w1 hS hf aA hA
   have r1 := qO 1 hA z1
   exact fV rfl rfl _ (ex_loadR 28 (.tmp 1) rfl ⟨g1, 0, none⟩ r1 (fun _ => by kernel_rfl) [.int .u64 (s : Int), v] (by kernel_rfl) ((HX1.out.keepB hS).part [.int .u64 (s : Int), v] 0 (fun j u hu => by rw [Nat.zero_add]; exact hu))) hS uS
  ·intro f w1 hS hf aA hA
   have r1 := qO 1 hA z1
   exact fV rfl rfl _ (fldT1 28 (Or.inl rfl) (.tmp 1) rfl g1 r1) hS uS
  ·intro f w1 hS hf aA hA
   have r6 := qA 6 1 hA sbPbe1 zsz (hf 1 (by decide))
   exact fV rfl rfl _ (ex_load1 26 (.tmp 6) rfl ⟨g1, 1, none⟩ r6 (fun _ => by kernel_rfl) ((HX1.out.keepB hS).cellv rfl)) hS uS
  ·intro f w1 hS hf aA hA
   have r7 := qA 7 2 hA sbPbe1 zsz (hf 2 (by decide))
   obtain ⟨q9, c9, hv9, _⟩ := (HC.out.keep (HB.out.trans (hS.mono HB.out.size)))
   exact fV rfl rfl _ (ex_len 26 47 (.tmp 7) rfl (by kernel_rfl) q9 (L).length c9 (r7.trans hv9)) hS uS
  ·intro f w1 hS hf aA hA
   have r8 := qA 8 3 hA sbPbe1 zsz (hf 3 (by decide))
   exact flw_wp rfl rfl (fun K hK => wp_make_b 64 (by kernel_rfl) (.tmp 8) (.tmp 8) rfl L.length HM.out (r8) (r8) (fun w' h1 h2 => hK _ _ (hS.trans (h2.mono hS.size)) (Flz.of h2) ⟨_, uS, h1.less hS.size⟩))
 intro f u1 hS hf hap
 have h0 := eqL (hf 0 (by decide)) rfl
 have h1 := eqL (hf 1 (by decide)) rfl
 have h2 : f 2 = v := hf 2 (by decide)
 have h3 := eqL (hf 3 (by decide)) rfl
 obtain ⟨v1_4, h4, hu4⟩ := hf 4 (by decide)
 have HU1_4 := Lib.hid hu4
 clear hu4
 clear hf hap
 clear zsz z1
 subst ha0
 simp only [slotsPbe1, putAll, h0, h1, h2, h3, h4, Act.put, List.setIfInBounds_toArray, List.set_cons_zero, List.set_cons_succ]
 clear h0 h1 h2 h3 h4
 have hBS := HB.out.trans (hS.mono HB.out.size)
 have HX1 := Lib.hid (HX1.out.keepB hS)
 replace HB := Lib.hid hBS
 clear hS hBS
 refine tl_pure rfl (by kernel_rfl) (.agg #[.int .u64 (s : Int), v, v1_4, .slice none 0 0, .slice none 0 0]) (ex_build 66 _ rfl #[.int .u64 (s : Int), v, v1_4, .slice none 0 0, .slice none 0 0] [(0, .agg #[.int .u64 (s : Int), v]), (1, v1_4)] (by kernel_rfl) (builtP (s : Int) (HC.out.sl) (HU1_4.out.sl))) ?_
 try simp only [Act.put, List.setIfInBounds_toArray, List.set_cons_zero, List.set_cons_succ]
 refine tl_step rfl rfl (fun K hK => wp_box_row 66 (.tmp 10) rfl (.agg #[.int .u64 (s : Int), v, v1_4, .slice none 0 0, .slice none 0 0]) rfl (hK _ _ ?_))
 try simp only [Act.put, List.setIfInBounds_toArray, List.set_cons_zero, List.set_cons_succ]
 have HST : Hid (Below u1.heap.size u1 (u1.alloc (.cells (Value.agg #[.int .u64 (s : Int), v, v1_4, .slice none 0 0, .slice none 0 0]).cells 66))) := Lib.hid ((Below.refl _ _).alloc (Nat.le_refl _) _)
 have HG : Hid (Has (u1.alloc (.cells (Value.agg #[.int .u64 (s : Int), v, v1_4, .slice none 0 0, .slice none 0 0]).cells 66)) u1.heap.size 66 [.int .u64 (s : Int), v, v1_4, .slice none 0 0, .slice none 0 0]) := Lib.hid (Has.made' _ _ _ _ rfl)
 have HGW : Hid (w.heap.size ≤ u1.heap.size) := Lib.hid HB.out.size
 replace HX1 := Lib.hid (HX1.out.keepB HST.out)
 have HVA := Lib.hid ((HU1_4.out.less HBW.out).keep HST.out)
 replace HB := Lib.hid (HB.out.trans (HST.out.mono HB.out.size))
 clear HST HU1_4
 generalize u1.alloc (.cells (Value.agg #[.int .u64 (s : Int), v, v1_4, .slice none 0 0, .slice none 0 0]).cells 66) = u2 at *
 generalize u1.heap.size = g at *
 refine tl_pure rfl (by kernel_rfl) (.pointer (some ⟨g, 0, none⟩)) (ex_assign (.tmp 11) rfl rfl) ?_
 try simp only [Act.put, List.setIfInBounds_toArray, List.set_cons_zero, List.set_cons_succ]
 refine tl_nilN ?_
 go_upto_region 2 with fail
 refine wp_act (fun a0 ha0 => ?_)
 have zsz : a0.tmps.size = 32 := by rw [ha0]; rfl
 have z3 : a0.eval (.tmp 3) = .pointer (some ⟨g, 0, none⟩) := by rw [ha0]; rfl
 have z1 : a0.eval (.tmp 1) = .pointer (some ⟨g1, 0, none⟩) := by rw [ha0]; rfl
 refine wrO [] slotsPbe2 waitPbe2 [Fct.val Flz 0 (.pointer (some ⟨g, 0, none⟩)), Fct.val Flz 1 (.pointer (some ⟨g1, 1, none⟩)), Fct.val Flz 2 (v), Fct.obj 3 (fun v w => ∃ zz, v = zz ∧ RowO u2.heap.size 47 w zz (L)) (fun _ _ _ ⟨zz, a, b⟩ he => ⟨zz, a, b.flz he⟩), Fct.val Flz 4 (.pointer (some ⟨g, 0, none⟩)), Fct.val Flz 5 (.pointer (some ⟨g, 0, none⟩)), Fct.val Flz 6 (.pointer (some ⟨g, 1, none⟩))] (fun w' => Below u2.heap.size u2 w') _ 7 1 chkPbe2 (by kernel_rfl) (by kernel_rfl) (by kernel_rfl) (by decide) (Below.refl _ _) ?_ ?_
 ·refine lt_s (lt_s (lt_s (lt_s (lt_s (lt_s (lt_s (lt_0) ?_) ?_) ?_) ?_) ?_) ?_) ?_
  ·intro f w1 hS hf aA hA
   have r3 := qO 3 hA z3
   exact fV rfl rfl _ (ex_move (.tmp 3) rfl r3) hS uS
  ·intro f w1 hS hf aA hA
   have r1 := qO 1 hA z1
   exact fV rfl rfl _ (fldT1 28 (Or.inl rfl) (.tmp 1) rfl g1 r1) hS uS
  ·intro f w1 hS hf aA hA
   have r13 := qA 13 1 hA sbPbe2 zsz (hf 1 (by decide))
   exact fV rfl rfl _ (ex_load1 26 (.tmp 13) rfl ⟨g1, 1, none⟩ r13 (fun _ => by kernel_rfl) ((HX1.out.keepB hS).cellv rfl)) hS uS
  ·intro f w1 hS hf aA hA
   have r14 := qA 14 2 hA sbPbe2 zsz (hf 2 (by decide))
   exact fC rfl rfl 48 #[(.tmp 14)] _ rfl #[v] (mp1 r14) (fun w => by kernel_rfl) _ (cloneC_in _ _ HM.out w1 (HC.out.keep (HB.out.trans (hS.mono HB.out.size))) u2.heap.size hS.size) hS (fun _ _ ⟨zz, a, b⟩ => ⟨zz, uS.trans a, b⟩)
  ·intro f w1 hS hf aA hA
   have r12 := qA 12 0 hA sbPbe2 zsz (hf 0 (by decide))
   exact fV rfl rfl _ (ex_nil (.tmp 12) rfl g 0 r12) hS uS
  ·intro f w1 hS hf aA hA
   have r16 := qA 16 4 hA sbPbe2 zsz (hf 4 (by decide))
   exact fV rfl rfl _ (fldP0 (.tmp 16) rfl g r16) hS uS
  ·intro f w1 hS hf aA hA
   have r17 := qA 17 5 hA sbPbe2 zsz (hf 5 (by decide))
   exact fV rfl rfl _ (fldT1 28 (Or.inl rfl) (.tmp 17) rfl g r17) hS uS
 intro f u3 hS hf hap
 have h0 := eqL (hf 0 (by decide)) rfl
 have h1 := eqL (hf 1 (by decide)) rfl
 have h2 : f 2 = v := hf 2 (by decide)
 obtain ⟨v2_3, h3, hu3⟩ := hf 3 (by decide)
 have HU2_3 := Lib.hid hu3
 clear hu3
 have h4 := eqL (hf 4 (by decide)) rfl
 have h5 := eqL (hf 5 (by decide)) rfl
 have h6 := eqL (hf 6 (by decide)) rfl
 clear hf hap
 clear zsz z3 z1
 subst ha0
 simp only [slotsPbe2, putAll, h0, h1, h2, h3, h4, h5, h6, Act.put, List.setIfInBounds_toArray, List.set_cons_zero, List.set_cons_succ]
 clear h0 h1 h2 h3 h4 h5 h6
 have HG3 := Lib.hid (HG.out.keepB hS)
 have HV3 := Lib.hid (HVA.out.keep hS)
 have HB3 := Lib.hid (HB.out.trans (hS.mono HB.out.size))
 have HGS : Hid (g < u2.heap.size) := Lib.hid HG.out.lt
 have HU2W : Hid (w.heap.size ≤ u2.heap.size) := Lib.hid HB.out.size
 clear HX1 HG HVA HB hS
 refine tl_step rfl rfl (fun K hK => wp_store_at 26 (by kernel_rfl) (.tmp 18) (.tmp 15) rfl g 1 66 _ HG3.out (by simp) rfl v2_3 HU2_3.out.one rfl (fun u4 hp hbl hot => hK _ _ ?_))
 have HP : Hid (PeS w.heap.size u4 g s L (aloneTo s L 0) [] [] v2_3 v1_4 (.slice none 0 0) (.slice none 0 0)) := Lib.hid (by
  rw [aloneTo_zero]
  exact ⟨HGW.out, hp, (HU2_3.out.less HU2W.out).off fun j hj => hot j ((HU2_3.out.blkT j hj).ne HG3.out.blkT (by decide)), HV3.out.off fun j hj => hot j ((HV3.out.blkT j hj).ne HG3.out.blkT (by decide)), OwnU.nil _ _ _, OwnU.nil _ _ _, fun k hk => by cases hk⟩)
 have HB := Lib.hid (HB3.out.trans (hbl _ HGW.out))
 have HVB := Lib.hid HP.out.bools.base
 have HLA : Hid ((aloneTo s L 0).length = L.length) := Lib.hid (aloneTo_len s L 0 (Nat.zero_le _))
 clear hp hbl hot HG3 HV3 HB3 HGS HU2_3
 refine tl_nil ?_
 try simp only [Act.put]
 go_upto_region 3 with fail
 refine wp_act (fun a0 ha0 => ?_)
 have zsz : a0.tmps.size = 32 := by rw [ha0]; rfl
 have z3 : a0.eval (.tmp 3) = .pointer (some ⟨g, 0, none⟩) := by rw [ha0]; rfl
 refine wrO [] slotsPbe3 waitPbe3 [Fct.val Flz 0 (.pointer (some ⟨g, 0, none⟩)), Fct.val Flz 1 (.pointer (some ⟨g, 0, none⟩)), Fct.val Flz 2 (.pointer (some ⟨g, 2, none⟩)), Fct.val Flz 3 (v1_4), Fct.val Flz 4 (.int .i64 ((L.length : Int))), Fct.val Flz 5 (.int .i64 0)] (fun w' => Below u4.heap.size u4 w') _ 6 0 chkPbe3 (by kernel_rfl) (by kernel_rfl) (by kernel_rfl) (by decide) (Below.refl _ _) ?_ ?_
 ·refine lt_s (lt_s (lt_s (lt_s (lt_s (lt_s (lt_0) ?_) ?_) ?_) ?_) ?_) ?_
  ·intro f w1 hS hf aA hA
   have r3 := qO 3 hA z3
   exact fV rfl rfl _ (ex_move (.tmp 3) rfl r3) hS uS
  ·intro f w1 hS hf aA hA
   have r19 := qA 19 0 hA sbPbe3 zsz (hf 0 (by decide))
   exact fV rfl rfl _ (ex_nil (.tmp 19) rfl g 0 r19) hS uS
  ·intro f w1 hS hf aA hA
   have r20 := qA 20 1 hA sbPbe3 zsz (hf 1 (by decide))
   exact fV rfl rfl _ (fldP1 (.tmp 20) rfl g r20) hS uS
  ·intro f w1 hS hf aA hA
   have r21 := qA 21 2 hA sbPbe3 zsz (hf 2 (by decide))
   exact fV rfl rfl _ (ex_load1 64 (.tmp 21) rfl ⟨g, 2, none⟩ r21 (fun _ => by kernel_rfl) ((HP.out.box.keepB hS).cellv rfl)) hS uS
  ·intro f w1 hS hf aA hA
   have r22 := qA 22 3 hA sbPbe3 zsz (hf 3 (by decide))
   obtain ⟨q9, c9, hv9, _⟩ := (HP.out.bools.keep hS).cs
   exact fV rfl rfl _ (Eq.trans (ex_len 64 4 (.tmp 22) rfl (by kernel_rfl) q9 (aloneTo s L 0).length c9 (r22.trans hv9)) (by rw [show (((aloneTo s L 0).length : Nat) : Int) = (L.length : Int) from (by rw [HLA.out])])) hS uS
  ·intro f w1 hS hf aA hA
   exact fV rfl rfl (.int .i64 0) (ex_move _ rfl rfl) hS uS
 intro f u5 hS hf hap
 have h0 := eqL (hf 0 (by decide)) rfl
 have h1 := eqL (hf 1 (by decide)) rfl
 have h2 := eqL (hf 2 (by decide)) rfl
 have h3 := eqL (hf 3 (by decide)) rfl
 have h4 := eqL (hf 4 (by decide)) rfl
 have h5 := eqL (hf 5 (by decide)) rfl
 clear hf hap
 clear zsz z3
 subst ha0
 simp only [slotsPbe3, putAll, h0, h1, h2, h3, h4, h5, Act.put, List.setIfInBounds_toArray, List.set_cons_zero, List.set_cons_succ]
 clear h0 h1 h2 h3 h4 h5
 refine tl_nil ?_
 replace HP := Lib.hid (HP.out.keep hS)
 replace HB := Lib.hid (HB.out.trans (hS.mono HB.out.size))
 clear hS
 go_wp2_with fail
 go_loopw [24] (fun vi wr => ∃ i : Nat, i ≤ L.length ∧ vi = .int .i64 i ∧ PeS w.heap.size wr g s L (aloneTo s L i) [] [] v2_3 v1_4 (.slice none 0 0) (.slice none 0 0) ∧ Below w.heap.size w wr) (fun vi _ => L.length - (intOf vi).toNat)
 case atStart => exact ⟨0, by omega, rfl, HP.out, HB.out⟩
 case round =>
  clear HP HB
  rename_i wr
  obtain ⟨i, hi, rfl, hp, hB⟩ := hrel
  have HP := Lib.hid hp
  have HB := Lib.hid hB
  clear hp hB
  by_cases hlt : i < L.length
  ·have HLI : Hid ((aloneTo s L i).length = L.length) := Lib.hid (aloneTo_len s L i hi)
   have HSU := Lib.hid (aloneTo_succ s L i hlt)
   have k3 : (i : Int) < (L.length : Int) := by omega
   have hm9 := HM.out
   go_upto_region 5 with fail
   refine wp_act (fun a0 ha0 => ?_)
   have zsz : a0.tmps.size = 32 := by rw [ha0]; rfl
   have z24 : a0.eval (.tmp 24) = .int .i64 ((i : Int)) := by rw [ha0]; rfl
   refine wrO [] slotsPbe5 waitPbe5 [Fct.val Flz 0 (.int .i64 ((i : Int))), Fct.val Flz 1 (.int .i64 ((i : Int)))] (fun w' => Below wr.heap.size wr w') _ 2 0 chkPbe5 (by kernel_rfl) (by kernel_rfl) (by kernel_rfl) (by decide) (Below.refl _ _) ?_ ?_
   ·refine lt_s (lt_s (lt_0) ?_) ?_
    ·intro f w1 hS hf aA hA
     have r24 := qO 24 hA z24
     exact fV rfl rfl _ (ex_move (.tmp 24) rfl r24) hS uS
    ·intro f w1 hS hf aA hA
     have r26 := qA 26 0 hA sbPbe5 zsz (hf 0 (by decide))
     exact fV rfl rfl _ (ex_assign (.tmp 26) rfl r26) hS uS
   intro f u6 hS hf hap
   have h0 := eqL (hf 0 (by decide)) rfl
   have h1 := eqL (hf 1 (by decide)) rfl
   clear hf hap
   clear zsz z24
   subst ha0
   simp only [slotsPbe5, putAll, h0, h1, Act.put, List.setIfInBounds_toArray, List.set_cons_zero, List.set_cons_succ]
   clear h0 h1
   refine tl_nil ?_
   replace HP := Lib.hid (HP.out.keep hS)
   replace HB := Lib.hid (HB.out.trans (hS.mono HB.out.size))
   clear hS
   go_upto_region 6 with fail
   refine wp_act (fun a0 ha0 => ?_)
   have zsz : a0.tmps.size = 32 := by rw [ha0]; rfl
   have z3 : a0.eval (.tmp 3) = .pointer (some ⟨g, 0, none⟩) := by rw [ha0]; rfl
   have z4 : a0.eval (.tmp 4) = .int .i64 ((i : Int)) := by rw [ha0]; rfl
   refine wrO [] slotsPbe6 waitPbe6 [Fct.val Flz 0 (.pointer (some ⟨g, 0, none⟩)), Fct.val Flz 1 (.int .i64 ((i : Int)))] (fun w' => Below u6.heap.size u6 w') _ 2 1 chkPbe6 (by kernel_rfl) (by kernel_rfl) (by kernel_rfl) (by decide) (Below.refl _ _) ?_ ?_
   ·refine lt_s (lt_s (lt_0) ?_) ?_
    ·intro f w1 hS hf aA hA
     have r3 := qO 3 hA z3
     exact fV rfl rfl _ (ex_move (.tmp 3) rfl r3) hS uS
    ·intro f w1 hS hf aA hA
     have r4 := qO 4 hA z4
     exact fV rfl rfl _ (ex_move (.tmp 4) rfl r4) hS uS
   intro f u7 hS hf hap
   have h0 := eqL (hf 0 (by decide)) rfl
   have h1 := eqL (hf 1 (by decide)) rfl
   clear hf hap
   clear zsz z3 z4
   subst ha0
   simp only [slotsPbe6, putAll, h0, h1, Act.put, List.setIfInBounds_toArray, List.set_cons_zero, List.set_cons_succ]
   clear h0 h1
   have HP7 := Lib.hid (HP.out.keep hS)
   have HB7 := Lib.hid (HB.out.trans (hS.mono HB.out.size))
   clear HP HB hS
   refine tl_call rfl rfl 51 #[(.tmp 27), (.tmp 28)] _ rfl #[.pointer (some ⟨g, 0, none⟩), .int .i64 (i : Int)] (by kernel_rfl) (fun w => by kernel_rfl) _ (look_b w.heap.size g s L (aloneTo s L i) [] [] v2_3 v1_4 (.slice none 0 0) (.slice none 0 0) i hlt HLI.out w u7 HB7.out HSD.out HL.out HP7.out) ?_
   rintro e u8 ⟨⟨z, rfl⟩, hp, hg⟩
   refine ⟨z, rfl, ?_⟩
   rw [HSU.out] at hp
   have HP := Lib.hid hp
   have HB := Lib.hid (HB7.out.grown hg HB7.out.size (fun k hk => HVB.out k hk))
   clear hp hg HP7 HB7
   try simp only [Act.put]
   refine tl_nil ?_
   go_wp2_with fail
   go_roundw
   case rel => exact ⟨i + 1, by omega, by go_num, HP.out, HB.out⟩
   case measure => simp [intOf]; omega
  ·obtain rfl : i = L.length := by omega
   have k3 : ¬ (L.length : Int) < (L.length : Int) := by omega
   have HAA := aloneTo_all s L
   go_wp2_with fail
   go_ret
   exact ⟨⟨g, rfl, v2_3, v1_4, by have := HP.out; rwa [HAA] at this⟩, HB.out⟩
end Go.Proofs.YtnkcehmgagpadaaDoor
