/- Contract: the law's own awake: true. Condition: the sums' tables are laid. -/
import Derived.Test.YtihkbblapfjobaaDoorCa
namespace Go.Proofs.YtihkbblapfjobaaDoor
open Go.RowKit
def waitAw1 (i : Nat) : List Nat := ([[], [0], [1], [2], [], [0, 1, 2, 3, 4]] : List (List Nat)).getD i []
def slotsAw1 : List (Nat × Nat) := [(6, 0), (7, 1), (8, 2), (9, 3), (1, 4)]
theorem sbAw1 : slotsB slotsAw1 = true := by kernel_rfl
theorem chkAw1 : flwO slotsAw1 waitAw1 5 (regOf Tryd.f9.body 1) = true := by kernel_rfl
def waitAw2 (i : Nat) : List Nat := ([[], [], [0, 1], [], [0, 1, 2, 3]] : List (List Nat)).getD i []
def slotsAw2 : List (Nat × Nat) := [(10, 0), (11, 1), (12, 2), (2, 3)]
theorem sbAw2 : slotsB slotsAw2 = true := by kernel_rfl
theorem chkAw2 : flwO slotsAw2 waitAw2 4 (regOf Tryd.f9.body 2) = true := by kernel_rfl
def waitAw3 (i : Nat) : List Nat := ([[], [0], [1], [2], [2], [2], [], [0, 1, 2, 3, 4, 5, 6], [0, 1, 2, 3, 4, 5, 6, 7], [0, 1, 2, 3, 4, 5, 6, 7, 8]] : List (List Nat)).getD i []
def slotsAw3 : List (Nat × Nat) := [(14, 0), (15, 1), (13, 2), (16, 3), (17, 4), (18, 5), (3, 6), (4, 8), (5, 9)]
theorem sbAw3 : slotsB slotsAw3 = true := by kernel_rfl
theorem chkAw3 : flwO slotsAw3 waitAw3 7 (regOf Tryd.f9.body 3) = true := by kernel_rfl
def waitAw4 (i : Nat) : List Nat := ([[], [0], [1], [1, 2], [3], [4], [4], [4, 5, 6], [4, 7], [8], [9], [9, 10], [9, 11], [9, 12], [13], [14], [14], [14, 15, 16], [14, 17], [14, 18], [19]] : List (List Nat)).getD i []
def slotsAw4 : List (Nat × Nat) := [(19, 0), (20, 1), (21, 2), (22, 3), (23, 4), (24, 5), (25, 6), (26, 7), (27, 8), (28, 9), (29, 10), (30, 11), (31, 12), (32, 13), (33, 14), (34, 15), (35, 16), (36, 17), (37, 18), (38, 19), (0, 20)]
theorem sbAw4 : slotsB slotsAw4 = true := by kernel_rfl
theorem chkAw4 : flwO slotsAw4 waitAw4 21 (regOf Tryd.f9.body 4) = true := by kernel_rfl
set_option maxHeartbeats 4000000 in
set_option maxRecDepth 100000 in
theorem awake13_b  (w w0 : World) (hB : Below w.heap.size w w0) (hL : Laid w) : Calls Tryd.prog 9 #[] w0 fun e w' => (∃ v, e = .returned v ∧ v = .bool true) ∧ Below w.heap.size w w' := by
  go_enter Tryd.func9, Tryd.ntmps9
  have HB := Lib.hid hB
  clear hB
  have HL := Lib.hid hL
  have HSZ := Lib.hid hL.size
  clear hL
  go_upto_region 1 with fail
  refine wp_act (fun a0 ha0 => ?_)
  have zsz : a0.tmps.size = 39 := by rw [ha0]; rfl
  refine wp_region_flwo (E := Flz) [] slotsAw1 waitAw1 [Fct.obj 0 (fun v w => ∃ g, v = .slice (some ⟨g, 0, none⟩) 1 1 ∧ w0.heap.size ≤ g ∧ Cl w g 5 (tX.map u8v)) (fun _ _ _ ⟨g, a, b, c⟩ he => ⟨g, a, b, c.flz he⟩), Fct.obj 1 (fun v w => ∃ g, v = .slice (some ⟨g, 0, none⟩) 1 1 ∧ w0.heap.size ≤ g ∧ Cl w g 5 (tX.map u8v)) (fun _ _ _ ⟨g, a, b, c⟩ he => ⟨g, a, b, c.flz he⟩), Fct.obj 2 (fun v w => ∃ g k, v = .slice (some ⟨k, 0, none⟩) 1 1 ∧ Cl w k 26 [.slice (some ⟨g, 0, none⟩) 1 1] ∧ Cl w g 5 (tX.map u8v)) (fun _ _ _ ⟨g, k, a, b, c⟩ he => ⟨g, k, a, b.flz he, c.flz he⟩), Fct.val Flz 3 (.agg (encU (shaU tX)).toArray), Fct.obj 4 (fun v w => ∃ g, v = .pointer (some ⟨g, 0, none⟩) ∧ w0.heap.size ≤ g ∧ Has w g 24 (encU zS)) (fun _ _ _ ⟨g, a, b, c⟩ he => ⟨g, a, b, c.flz he (by decide)⟩)] (fun w' => Below w0.heap.size w0 w') _ 5 1 chkAw1 (by kernel_rfl) rfl (by kernel_rfl) (by decide) (Below.refl _ _) ?_ ?_
  · refine lt_s (lt_s (lt_s (lt_s (lt_s (lt_0) ?_) ?_) ?_) ?_) ?_
    · intro f w1 hS hf
      generalize hA : putAll _ _ f = A
      exact flw_wp rfl rfl (fun K hK => wp_lit8 1 _ rfl ((tX.map u8v).toArray) (by decide) (by decide) (by kernel_rfl) (hK _ _ (hS.alloc hS.size _) (Flz.al _ _) ⟨_, updF_self _ _ _, hS.size, Cl.made _ _ _⟩))
    · intro f w1 hS hf
      generalize hA : putAll _ _ f = A
      have e6 : A.eval (.tmp 6) = f 0 := by rw [← hA]; exact putAll_at f 6 0 slotsAw1 a0 sbAw1 (by kernel_rfl) zsz rfl rfl
      obtain ⟨g, hv, hg, hc⟩ := hf 0 (by decide)
      exact flw_wp rfl rfl (fun K hK => wp_conv_at (.tmp 6) rfl g 1 1 _ (e6.trans hv) hc (hK _ _ (hS.trans (freeze_flz hc hg).2) (freeze_flz hc hg).1 ⟨g, updF_self _ _ _, hg, hc.flz (freeze_flz hc hg).1⟩))
    · intro f w1 hS hf
      generalize hA : putAll _ _ f = A
      have e7 : A.eval (.tmp 7) = f 1 := by rw [← hA]; exact putAll_at f 7 1 slotsAw1 a0 sbAw1 (by kernel_rfl) zsz rfl rfl
      obtain ⟨g, hv, hg, hc⟩ := hf 1 (by decide)
      exact flw_wp rfl rfl (fun K hK => wp_one_bs (.tmp 7) rfl (some ⟨g, 0, none⟩) 1 1 (e7.trans hv) (hK _ _ (hS.alloc hS.size _) (Flz.al _ _) ⟨g, _, updF_self _ _ _, Cl.made _ _ [_], hc.flz (Flz.al _ _)⟩))
    · intro f w1 hS hf
      generalize hA : putAll _ _ f = A
      have e8 : A.eval (.tmp 8) = f 2 := by rw [← hA]; exact putAll_at f 8 2 slotsAw1 a0 sbAw1 (by kernel_rfl) zsz rfl rfl
      obtain ⟨g, k, hv, hk, hc⟩ := hf 2 (by decide)
      have HOF := of_at (x := tX) hk (some ⟨g, 0, none⟩) 1 rfl (by decide) hc.sees (by decide) (HL.out.keep (HB.out.trans (hS.mono HB.out.size)) HSZ.out)
      exact flw_call rfl rfl 10 #[(.tmp 8)] _ rfl #[.slice (some ⟨k, 0, none⟩) 1 1] (by simp only [List.map_toArray, List.map_cons, List.map_nil, e8, hv]) (fun w => by kernel_rfl) (fun v _ => v = .agg (encU (shaU tX)).toArray) HOF (fun v w' hr hb => ⟨hS.trans (hb.mono hS.size), Flz.of hb, (updF_self _ _ _).trans hr⟩)
    · intro f w1 hS hf
      generalize hA : putAll _ _ f = A
      exact flw_wp rfl rfl (fun K hK => wp_alloc_row 24 rfl (.agg (encU zS).toArray) (fun w => by kernel_rfl) (hK _ _ (hS.alloc hS.size _) (Flz.al _ _) ⟨_, updF_self _ _ _, hS.size, Has.made' _ _ _ _ rfl⟩))
  intro f u1 hS hf hap
  obtain ⟨gl0, h0, -⟩ := hf 0 (by decide)
  obtain ⟨gl1, h1, -⟩ := hf 1 (by decide)
  obtain ⟨_, gl2, h2, -⟩ := hf 2 (by decide)
  have h3 : f 3 = .agg (encU (shaU tX)).toArray := hf 3 (by decide)
  obtain ⟨b1_4, h4, hgb4, hhb4⟩ := hf 4 (by decide)
  clear hf hap
  clear zsz
  subst ha0
  simp only [slotsAw1, putAll, h0, h1, h2, h3, h4, Act.put, List.setIfInBounds_toArray, List.set_cons_zero, List.set_cons_succ]
  clear h0 h1 h2 h3 h4
  refine tl_store rfl (by kernel_rfl) 24 (.tmp 1) (.tmp 9) rfl b1_4 (encU (shaU tX)) _ rfl rfl _ hhb4 (by rw [encU_len]; kernel_rfl) (by simp only [encU_len]) (encU_all _) ?_
  intro w1 hp4 hbl hot
  replace hS := hS.trans (hbl _ hgb4)
  clear hbl hot hhb4
  try simp only [Act.put]
  refine tl_nil ?_
  replace HB := Lib.hid (HB.out.trans (hS.mono HB.out.size))
  clear hS
  have HX_b1_4 : Hid (Has w1 b1_4 24 (encU (shaU tX))) := Lib.hid hp4
  clear hp4 hgb4
  go_upto_region 2 with fail
  refine wp_act (fun a0 ha0 => ?_)
  have zsz : a0.tmps.size = 39 := by rw [ha0]; rfl
  have z1 : a0.eval (.tmp 1) = .pointer (some ⟨b1_4, 0, none⟩) := by rw [ha0]; rfl
  refine wp_region_flwo (E := Flz) [] slotsAw2 waitAw2 [Fct.val Flz 0 (aggC zC), Fct.val Flz 1 (.agg (encU (shaU tX)).toArray), Fct.val Flz 2 (aggC (putC zC (shaU tX))), Fct.obj 3 (fun v w => ∃ g, v = .pointer (some ⟨g, 0, none⟩) ∧ w1.heap.size ≤ g ∧ Has w g 28 (encC zC)) (fun _ _ _ ⟨g, a, b, c⟩ he => ⟨g, a, b, c.flz he (by decide)⟩)] (fun w' => Below w1.heap.size w1 w') _ 4 1 chkAw2 (by kernel_rfl) rfl (by kernel_rfl) (by decide) (Below.refl _ _) ?_ ?_
  · refine lt_s (lt_s (lt_s (lt_s (lt_0) ?_) ?_) ?_) ?_
    · intro f w1 hS hf
      generalize hA : putAll _ _ f = A
      exact flw_val rfl rfl (aggC zC) (ex_build 28 _ rfl (encC zC).toArray [] (by kernel_rfl) (builtC0)) hS (Flz.refl _) (updF_self _ _ _)
    · intro f w1 hS hf
      generalize hA : putAll _ _ f = A
      have r1 : A.eval (.tmp 1) = .pointer (some ⟨b1_4, 0, none⟩) := by rw [← hA]; exact putAll_off f 1 slotsAw2 a0 (by kernel_rfl) z1
      exact flw_val rfl rfl (.agg (encU (shaU tX)).toArray) (ex_loadR 24 (.tmp 1) rfl ⟨b1_4, 0, none⟩ r1 (fun _ => by kernel_rfl) (encU (shaU tX)) (by rw [encU_len]; kernel_rfl) ((HX_b1_4.out.keepB hS).part (encU (shaU tX)) 0 (encU_all' (shaU tX)))) hS (Flz.refl _) (updF_self _ _ _)
    · intro f w1 hS hf
      generalize hA : putAll _ _ f = A
      have h10 : f 0 = aggC zC := hf 0 (by decide)
      have r10 : A.eval (.tmp 10) = aggC zC := by rw [← hA]; exact putAll_at f 10 0 slotsAw2 a0 sbAw2 (by kernel_rfl) zsz rfl h10
      have h11 : f 1 = .agg (encU (shaU tX)).toArray := hf 1 (by decide)
      have r11 : A.eval (.tmp 11) = .agg (encU (shaU tX)).toArray := by rw [← hA]; exact putAll_at f 11 1 slotsAw2 a0 sbAw2 (by kernel_rfl) zsz rfl h11
      exact flw_call rfl rfl 11 #[(.tmp 10), (.tmp 11)] _ rfl #[aggC zC, .agg (encU (shaU tX)).toArray] (by simp only [List.map_toArray, List.map_cons, List.map_nil, r10, r11]) (fun w => by kernel_rfl) (fun v _ => v = aggC (putC zC (shaU tX))) (put_any zC (shaU tX) w1 (HL.out.keep (HB.out.trans (hS.mono HB.out.size)) HSZ.out)) (fun v w' hr hb => ⟨hS.trans (hb.mono hS.size), Flz.of hb, (updF_self _ _ _).trans hr⟩)
    · intro f w1 hS hf
      generalize hA : putAll _ _ f = A
      exact flw_wp rfl rfl (fun K hK => wp_alloc_row 28 rfl (aggC zC) (fun w => by kernel_rfl) (hK _ _ (hS.alloc hS.size _) (Flz.al _ _) ⟨_, updF_self _ _ _, hS.size, Has.made' _ _ _ _ rfl⟩))
  intro f u2 hS hf hap
  have h0 : f 0 = aggC zC := hf 0 (by decide)
  have h1 : f 1 = .agg (encU (shaU tX)).toArray := hf 1 (by decide)
  have h2 : f 2 = aggC (putC zC (shaU tX)) := hf 2 (by decide)
  obtain ⟨b2_3, h3, hgb3, hhb3⟩ := hf 3 (by decide)
  clear hf hap
  clear zsz z1
  subst ha0
  simp only [slotsAw2, putAll, h0, h1, h2, h3, Act.put, List.setIfInBounds_toArray, List.set_cons_zero, List.set_cons_succ]
  clear h0 h1 h2 h3
  refine tl_store rfl (by kernel_rfl) 28 (.tmp 2) (.tmp 12) rfl b2_3 (encC (putC zC (shaU tX))) _ rfl rfl _ hhb3 (by rw [encC_len]; kernel_rfl) (by simp only [encC_len]) (encC_ones _) ?_
  intro w2 hp3 hbl hot
  replace hS := hS.trans (hbl _ hgb3)
  clear hbl hot hhb3
  try simp only [Act.put]
  refine tl_nil ?_
  replace HX_b1_4 := Lib.hid (HX_b1_4.out.keepB hS)
  replace HB := Lib.hid (HB.out.trans (hS.mono HB.out.size))
  clear hS
  have HX_b2_3 : Hid (Has w2 b2_3 28 (encC (putC zC (shaU tX)))) := Lib.hid hp3
  clear hp3 hgb3
  go_upto_region 3 with fail
  refine wp_act (fun a0 ha0 => ?_)
  have zsz : a0.tmps.size = 39 := by rw [ha0]; rfl
  have z2 : a0.eval (.tmp 2) = .pointer (some ⟨b2_3, 0, none⟩) := by rw [ha0]; rfl
  refine wp_region_flwo (E := Flz) [] slotsAw3 waitAw3 [Fct.val Flz 0 (aggC (putC zC (shaU tX))), Fct.val Flz 1 (.tuple #[.agg (encU (shaU tX)).toArray, .bool true, .bool true]), Fct.val Flz 2 (.tuple #[.agg (encU (shaU tX)).toArray, .bool true, .bool true]), Fct.val Flz 3 (.agg (encU (shaU tX)).toArray), Fct.val Flz 4 (.bool true), Fct.val Flz 5 (.bool true), Fct.obj 6 (fun v w => ∃ g, v = .pointer (some ⟨g, 0, none⟩) ∧ w2.heap.size ≤ g ∧ Has w g 24 (encU zS)) (fun _ _ _ ⟨g, a, b, c⟩ he => ⟨g, a, b, c.flz he (by decide)⟩)] (fun w' => Below w2.heap.size w2 w') _ 7 3 chkAw3 (by kernel_rfl) rfl (by kernel_rfl) (by decide) (Below.refl _ _) ?_ ?_
  · refine lt_s (lt_s (lt_s (lt_s (lt_s (lt_s (lt_s (lt_0) ?_) ?_) ?_) ?_) ?_) ?_) ?_
    · intro f w1 hS hf
      generalize hA : putAll _ _ f = A
      have r2 : A.eval (.tmp 2) = .pointer (some ⟨b2_3, 0, none⟩) := by rw [← hA]; exact putAll_off f 2 slotsAw3 a0 (by kernel_rfl) z2
      exact flw_val rfl rfl (aggC (putC zC (shaU tX))) (ex_loadR 28 (.tmp 2) rfl ⟨b2_3, 0, none⟩ r2 (fun _ => by kernel_rfl) (encC (putC zC (shaU tX))) (by rw [encC_len]; kernel_rfl) ((HX_b2_3.out.keepB hS).part (encC (putC zC (shaU tX))) 0 (encC_all (putC zC (shaU tX))))) hS (Flz.refl _) (updF_self _ _ _)
    · intro f w1 hS hf
      generalize hA : putAll _ _ f = A
      have h14 : f 0 = aggC (putC zC (shaU tX)) := hf 0 (by decide)
      have r14 : A.eval (.tmp 14) = aggC (putC zC (shaU tX)) := by rw [← hA]; exact putAll_at f 14 0 slotsAw3 a0 sbAw3 (by kernel_rfl) zsz rfl h14
      exact flw_call rfl rfl 12 #[(.tmp 14)] _ rfl #[aggC (putC zC (shaU tX))] (by simp only [List.map_toArray, List.map_cons, List.map_nil, r14]) (fun w => by kernel_rfl) (fun v _ => v = .tuple #[.agg (encU (shaU tX)).toArray, .bool true, .bool true]) (as_any (pure_any (putC zC (shaU tX)) w1 (HL.out.keep (HB.out.trans (hS.mono HB.out.size)) HSZ.out)) (pure_put _)) (fun v w' hr hb => ⟨hS.trans (hb.mono hS.size), Flz.of hb, (updF_self _ _ _).trans hr⟩)
    · intro f w1 hS hf
      generalize hA : putAll _ _ f = A
      have h15 : f 1 = .tuple #[.agg (encU (shaU tX)).toArray, .bool true, .bool true] := hf 1 (by decide)
      have r15 : A.eval (.tmp 15) = .tuple #[.agg (encU (shaU tX)).toArray, .bool true, .bool true] := by rw [← hA]; exact putAll_at f 15 1 slotsAw3 a0 sbAw3 (by kernel_rfl) zsz rfl h15
      exact flw_val rfl rfl (.tuple #[.agg (encU (shaU tX)).toArray, .bool true, .bool true]) (ex_move (.tmp 15) rfl r15) hS (Flz.refl _) (updF_self _ _ _)
    · intro f w1 hS hf
      generalize hA : putAll _ _ f = A
      have h13 : f 2 = .tuple #[.agg (encU (shaU tX)).toArray, .bool true, .bool true] := hf 2 (by decide)
      have r13 : A.eval (.tmp 13) = .tuple #[.agg (encU (shaU tX)).toArray, .bool true, .bool true] := by rw [← hA]; exact putAll_at f 13 2 slotsAw3 a0 sbAw3 (by kernel_rfl) zsz rfl h13
      exact flw_val rfl rfl (.agg (encU (shaU tX)).toArray) (ex_extract (.tmp 13) 0 rfl r13 rfl) hS (Flz.refl _) (updF_self _ _ _)
    · intro f w1 hS hf
      generalize hA : putAll _ _ f = A
      have h13 : f 2 = .tuple #[.agg (encU (shaU tX)).toArray, .bool true, .bool true] := hf 2 (by decide)
      have r13 : A.eval (.tmp 13) = .tuple #[.agg (encU (shaU tX)).toArray, .bool true, .bool true] := by rw [← hA]; exact putAll_at f 13 2 slotsAw3 a0 sbAw3 (by kernel_rfl) zsz rfl h13
      exact flw_val rfl rfl (.bool true) (ex_extract (.tmp 13) 1 rfl r13 rfl) hS (Flz.refl _) (updF_self _ _ _)
    · intro f w1 hS hf
      generalize hA : putAll _ _ f = A
      have h13 : f 2 = .tuple #[.agg (encU (shaU tX)).toArray, .bool true, .bool true] := hf 2 (by decide)
      have r13 : A.eval (.tmp 13) = .tuple #[.agg (encU (shaU tX)).toArray, .bool true, .bool true] := by rw [← hA]; exact putAll_at f 13 2 slotsAw3 a0 sbAw3 (by kernel_rfl) zsz rfl h13
      exact flw_val rfl rfl (.bool true) (ex_extract (.tmp 13) 2 rfl r13 rfl) hS (Flz.refl _) (updF_self _ _ _)
    · intro f w1 hS hf
      generalize hA : putAll _ _ f = A
      exact flw_wp rfl rfl (fun K hK => wp_alloc_row 24 rfl (.agg (encU zS).toArray) (fun w => by kernel_rfl) (hK _ _ (hS.alloc hS.size _) (Flz.al _ _) ⟨_, updF_self _ _ _, hS.size, Has.made' _ _ _ _ rfl⟩))
  intro f u3 hS hf hap
  have h0 : f 0 = aggC (putC zC (shaU tX)) := hf 0 (by decide)
  have h1 : f 1 = .tuple #[.agg (encU (shaU tX)).toArray, .bool true, .bool true] := hf 1 (by decide)
  have h2 : f 2 = .tuple #[.agg (encU (shaU tX)).toArray, .bool true, .bool true] := hf 2 (by decide)
  have h3 : f 3 = .agg (encU (shaU tX)).toArray := hf 3 (by decide)
  have h4 : f 4 = .bool true := hf 4 (by decide)
  have h5 : f 5 = .bool true := hf 5 (by decide)
  obtain ⟨b3_6, h6, hgb6, hhb6⟩ := hf 6 (by decide)
  clear hf hap
  clear zsz z2
  subst ha0
  simp only [slotsAw3, putAll, h0, h1, h2, h3, h4, h5, h6, Act.put, List.setIfInBounds_toArray, List.set_cons_zero, List.set_cons_succ]
  clear h0 h1 h2 h3 h4 h5 h6
  refine tl_store rfl (by kernel_rfl) 24 (.tmp 3) (.tmp 16) rfl b3_6 (encU (shaU tX)) _ rfl rfl _ hhb6 (by rw [encU_len]; kernel_rfl) (by simp only [encU_len]) (encU_all _) ?_
  intro w3 hp6 hbl hot
  replace hS := hS.trans (hbl _ hgb6)
  clear hbl hot hhb6
  try simp only [Act.put]
  refine tl_pure rfl (by kernel_rfl) (.bool true) (ex_assign (.tmp 17) rfl rfl) ?_
  try simp only [Act.put, List.setIfInBounds_toArray, List.set_cons_zero, List.set_cons_succ]
  refine tl_pure rfl (by kernel_rfl) (.bool true) (ex_assign (.tmp 18) rfl rfl) ?_
  try simp only [Act.put, List.setIfInBounds_toArray, List.set_cons_zero, List.set_cons_succ]
  refine tl_nil ?_
  replace HX_b1_4 := Lib.hid (HX_b1_4.out.keepB hS)
  replace HX_b2_3 := Lib.hid (HX_b2_3.out.keepB hS)
  replace HB := Lib.hid (HB.out.trans (hS.mono HB.out.size))
  clear hS
  have HX_b3_6 : Hid (Has w3 b3_6 24 (encU (shaU tX))) := Lib.hid hp6
  clear hp6 hgb6
  go_upto_region 4 with fail
  refine wp_act (fun a0 ha0 => ?_)
  have zsz : a0.tmps.size = 39 := by rw [ha0]; rfl
  have z5 : a0.eval (.tmp 5) = .bool true := by rw [ha0]; rfl
  have z4 : a0.eval (.tmp 4) = .bool true := by rw [ha0]; rfl
  have z3 : a0.eval (.tmp 3) = .pointer (some ⟨b3_6, 0, none⟩) := by rw [ha0]; rfl
  have z1 : a0.eval (.tmp 1) = .pointer (some ⟨b1_4, 0, none⟩) := by rw [ha0]; rfl
  have z2 : a0.eval (.tmp 2) = .pointer (some ⟨b2_3, 0, none⟩) := by rw [ha0]; rfl
  refine wp_region_flwo (E := Flz) [] slotsAw4 waitAw4 [Fct.val Flz 0 (.bool true), Fct.val Flz 1 (.bool true), Fct.val Flz 2 (.bool true), Fct.val Flz 3 (.bool true), Fct.val Flz 4 (.bool true), Fct.val Flz 5 (.agg (encU (shaU tX)).toArray), Fct.val Flz 6 (.agg (encU (shaU tX)).toArray), Fct.val Flz 7 (.bool true), Fct.val Flz 8 (.bool true), Fct.val Flz 9 (.bool true), Fct.val Flz 10 (aggC (putC zC (shaU tX))), Fct.val Flz 11 (.bool false), Fct.val Flz 12 (.bool true), Fct.val Flz 13 (.bool true), Fct.val Flz 14 (.bool true), Fct.val Flz 15 (aggC (putC zC (shaU tX))), Fct.val Flz 16 (.agg (encU (shaU tX)).toArray), Fct.val Flz 17 (aggC (takeC (putC zC (shaU tX)) (shaU tX))), Fct.val Flz 18 (.bool true), Fct.val Flz 19 (.bool true), Fct.val Flz 20 (.bool true)] (fun w' => Below w3.heap.size w3 w') _ 21 0 chkAw4 (by kernel_rfl) rfl (by kernel_rfl) (by decide) (Below.refl _ _) ?_ ?_
  · refine lt_s (lt_s (lt_s (lt_s (lt_s (lt_s (lt_s (lt_s (lt_s (lt_s (lt_s (lt_s (lt_s (lt_s (lt_s (lt_s (lt_s (lt_s (lt_s (lt_s (lt_s (lt_0) ?_) ?_) ?_) ?_) ?_) ?_) ?_) ?_) ?_) ?_) ?_) ?_) ?_) ?_) ?_) ?_) ?_) ?_) ?_) ?_) ?_
    · intro f w1 hS hf
      generalize hA : putAll _ _ f = A
      have r5 : A.eval (.tmp 5) = .bool true := by rw [← hA]; exact putAll_off f 5 slotsAw4 a0 (by kernel_rfl) z5
      exact flw_val rfl rfl (.bool true) (ex_move (.tmp 5) rfl r5) hS (Flz.refl _) (updF_self _ _ _)
    · intro f w1 hS hf
      generalize hA : putAll _ _ f = A
      have h19 : f 0 = .bool true := hf 0 (by decide)
      have r19 : A.eval (.tmp 19) = .bool true := by rw [← hA]; exact putAll_at f 19 0 slotsAw4 a0 sbAw4 (by kernel_rfl) zsz rfl h19
      exact flw_val rfl rfl (.bool true) (ex_move (.tmp 19) rfl r19) hS (Flz.refl _) (updF_self _ _ _)
    · intro f w1 hS hf
      generalize hA : putAll _ _ f = A
      have g20 : f 1 = .bool true := hf 1 (by decide)
      have t20 : A.tmps[20]? = some (.bool true) := by rw [← hA]; exact putAll_g f 20 1 slotsAw4 a0 sbAw4 (by kernel_rfl) zsz rfl g20
      have r4 : A.eval (.tmp 4) = .bool true := by rw [← hA]; exact putAll_off f 4 slotsAw4 a0 (by kernel_rfl) z4
      exact flw_val rfl ((wanted_of rfl 20 rfl t20).trans rfl) (.bool true) (ex_move (.tmp 4) rfl r4) hS (Flz.refl _) (updF_self _ _ _)
    · intro f w1 hS hf
      generalize hA : putAll _ _ f = A
      have h20 : f 1 = .bool true := hf 1 (by decide)
      have r20 : A.eval (.tmp 20) = .bool true := by rw [← hA]; exact putAll_at f 20 1 slotsAw4 a0 sbAw4 (by kernel_rfl) zsz rfl h20
      have h21 : f 2 = .bool true := hf 2 (by decide)
      have r21 : A.eval (.tmp 21) = .bool true := by rw [← hA]; exact putAll_at f 21 2 slotsAw4 a0 sbAw4 (by kernel_rfl) zsz rfl h21
      exact flw_val rfl rfl (.bool true) (ex_pick (.tmp 20) (.tmp 21) _ rfl true r20 ((if_pos rfl).trans r21)) hS (Flz.refl _) (updF_self _ _ _)
    · intro f w1 hS hf
      generalize hA : putAll _ _ f = A
      have h22 : f 3 = .bool true := hf 3 (by decide)
      have r22 : A.eval (.tmp 22) = .bool true := by rw [← hA]; exact putAll_at f 22 3 slotsAw4 a0 sbAw4 (by kernel_rfl) zsz rfl h22
      exact flw_val rfl rfl (.bool true) (ex_move (.tmp 22) rfl r22) hS (Flz.refl _) (updF_self _ _ _)
    · intro f w1 hS hf
      generalize hA : putAll _ _ f = A
      have g23 : f 4 = .bool true := hf 4 (by decide)
      have t23 : A.tmps[23]? = some (.bool true) := by rw [← hA]; exact putAll_g f 23 4 slotsAw4 a0 sbAw4 (by kernel_rfl) zsz rfl g23
      have r3 : A.eval (.tmp 3) = .pointer (some ⟨b3_6, 0, none⟩) := by rw [← hA]; exact putAll_off f 3 slotsAw4 a0 (by kernel_rfl) z3
      exact flw_val rfl ((wanted_of rfl 23 rfl t23).trans rfl) (.agg (encU (shaU tX)).toArray) (ex_loadR 24 (.tmp 3) rfl ⟨b3_6, 0, none⟩ r3 (fun _ => by kernel_rfl) (encU (shaU tX)) (by rw [encU_len]; kernel_rfl) ((HX_b3_6.out.keepB hS).part (encU (shaU tX)) 0 (encU_all' (shaU tX)))) hS (Flz.refl _) (updF_self _ _ _)
    · intro f w1 hS hf
      generalize hA : putAll _ _ f = A
      have g23 : f 4 = .bool true := hf 4 (by decide)
      have t23 : A.tmps[23]? = some (.bool true) := by rw [← hA]; exact putAll_g f 23 4 slotsAw4 a0 sbAw4 (by kernel_rfl) zsz rfl g23
      have r1 : A.eval (.tmp 1) = .pointer (some ⟨b1_4, 0, none⟩) := by rw [← hA]; exact putAll_off f 1 slotsAw4 a0 (by kernel_rfl) z1
      exact flw_val rfl ((wanted_of rfl 23 rfl t23).trans rfl) (.agg (encU (shaU tX)).toArray) (ex_loadR 24 (.tmp 1) rfl ⟨b1_4, 0, none⟩ r1 (fun _ => by kernel_rfl) (encU (shaU tX)) (by rw [encU_len]; kernel_rfl) ((HX_b1_4.out.keepB hS).part (encU (shaU tX)) 0 (encU_all' (shaU tX)))) hS (Flz.refl _) (updF_self _ _ _)
    · intro f w1 hS hf
      generalize hA : putAll _ _ f = A
      have g23 : f 4 = .bool true := hf 4 (by decide)
      have t23 : A.tmps[23]? = some (.bool true) := by rw [← hA]; exact putAll_g f 23 4 slotsAw4 a0 sbAw4 (by kernel_rfl) zsz rfl g23
      have h24 : f 5 = .agg (encU (shaU tX)).toArray := hf 5 (by decide)
      have r24 : A.eval (.tmp 24) = .agg (encU (shaU tX)).toArray := by rw [← hA]; exact putAll_at f 24 5 slotsAw4 a0 sbAw4 (by kernel_rfl) zsz rfl h24
      have h25 : f 6 = .agg (encU (shaU tX)).toArray := hf 6 (by decide)
      have r25 : A.eval (.tmp 25) = .agg (encU (shaU tX)).toArray := by rw [← hA]; exact putAll_at f 25 6 slotsAw4 a0 sbAw4 (by kernel_rfl) zsz rfl h25
      exact flw_val rfl ((wanted_of rfl 23 rfl t23).trans rfl) (.bool true) (Eq.trans (eql_su 24 (.tmp 24) (.tmp 25) _ rfl (shaU tX) (shaU tX) r24 r25 (by kernel_rfl) (by kernel_rfl)) (by rw [(decide_eq_true (rfl : shaU tX = shaU tX))])) hS (Flz.refl _) (updF_self _ _ _)
    · intro f w1 hS hf
      generalize hA : putAll _ _ f = A
      have h23 : f 4 = .bool true := hf 4 (by decide)
      have r23 : A.eval (.tmp 23) = .bool true := by rw [← hA]; exact putAll_at f 23 4 slotsAw4 a0 sbAw4 (by kernel_rfl) zsz rfl h23
      have h26 : f 7 = .bool true := hf 7 (by decide)
      have r26 : A.eval (.tmp 26) = .bool true := by rw [← hA]; exact putAll_at f 26 7 slotsAw4 a0 sbAw4 (by kernel_rfl) zsz rfl h26
      exact flw_val rfl rfl (.bool true) (ex_pick (.tmp 23) (.tmp 26) _ rfl true r23 ((if_pos rfl).trans r26)) hS (Flz.refl _) (updF_self _ _ _)
    · intro f w1 hS hf
      generalize hA : putAll _ _ f = A
      have h27 : f 8 = .bool true := hf 8 (by decide)
      have r27 : A.eval (.tmp 27) = .bool true := by rw [← hA]; exact putAll_at f 27 8 slotsAw4 a0 sbAw4 (by kernel_rfl) zsz rfl h27
      exact flw_val rfl rfl (.bool true) (ex_move (.tmp 27) rfl r27) hS (Flz.refl _) (updF_self _ _ _)
    · intro f w1 hS hf
      generalize hA : putAll _ _ f = A
      have g28 : f 9 = .bool true := hf 9 (by decide)
      have t28 : A.tmps[28]? = some (.bool true) := by rw [← hA]; exact putAll_g f 28 9 slotsAw4 a0 sbAw4 (by kernel_rfl) zsz rfl g28
      have r2 : A.eval (.tmp 2) = .pointer (some ⟨b2_3, 0, none⟩) := by rw [← hA]; exact putAll_off f 2 slotsAw4 a0 (by kernel_rfl) z2
      exact flw_val rfl ((wanted_of rfl 28 rfl t28).trans rfl) (aggC (putC zC (shaU tX))) (ex_loadR 28 (.tmp 2) rfl ⟨b2_3, 0, none⟩ r2 (fun _ => by kernel_rfl) (encC (putC zC (shaU tX))) (by rw [encC_len]; kernel_rfl) ((HX_b2_3.out.keepB hS).part (encC (putC zC (shaU tX))) 0 (encC_all (putC zC (shaU tX))))) hS (Flz.refl _) (updF_self _ _ _)
    · intro f w1 hS hf
      generalize hA : putAll _ _ f = A
      have g28 : f 9 = .bool true := hf 9 (by decide)
      have t28 : A.tmps[28]? = some (.bool true) := by rw [← hA]; exact putAll_g f 28 9 slotsAw4 a0 sbAw4 (by kernel_rfl) zsz rfl g28
      have h29 : f 10 = aggC (putC zC (shaU tX)) := hf 10 (by decide)
      have r29 : A.eval (.tmp 29) = aggC (putC zC (shaU tX)) := by rw [← hA]; exact putAll_at f 29 10 slotsAw4 a0 sbAw4 (by kernel_rfl) zsz rfl h29
      exact flw_call rfl ((wanted_of rfl 28 rfl t28).trans rfl) 16 #[(.tmp 29)] _ rfl #[aggC (putC zC (shaU tX))] (by simp only [List.map_toArray, List.map_cons, List.map_nil, r29]) (fun w => by kernel_rfl) (fun v _ => v = .bool false) (as_any (zeroC_any (putC zC (shaU tX)) w1) (congrArg Value.bool (putC_ne _))) (fun v w' hr hb => ⟨hS.trans (hb.mono hS.size), Flz.of hb, (updF_self _ _ _).trans hr⟩)
    · intro f w1 hS hf
      generalize hA : putAll _ _ f = A
      have g28 : f 9 = .bool true := hf 9 (by decide)
      have t28 : A.tmps[28]? = some (.bool true) := by rw [← hA]; exact putAll_g f 28 9 slotsAw4 a0 sbAw4 (by kernel_rfl) zsz rfl g28
      have h30 : f 11 = .bool false := hf 11 (by decide)
      have r30 : A.eval (.tmp 30) = .bool false := by rw [← hA]; exact putAll_at f 30 11 slotsAw4 a0 sbAw4 (by kernel_rfl) zsz rfl h30
      exact flw_val rfl ((wanted_of rfl 28 rfl t28).trans rfl) (.bool true) (ex_not _ (.tmp 30) rfl r30) hS (Flz.refl _) (updF_self _ _ _)
    · intro f w1 hS hf
      generalize hA : putAll _ _ f = A
      have h28 : f 9 = .bool true := hf 9 (by decide)
      have r28 : A.eval (.tmp 28) = .bool true := by rw [← hA]; exact putAll_at f 28 9 slotsAw4 a0 sbAw4 (by kernel_rfl) zsz rfl h28
      have h31 : f 12 = .bool true := hf 12 (by decide)
      have r31 : A.eval (.tmp 31) = .bool true := by rw [← hA]; exact putAll_at f 31 12 slotsAw4 a0 sbAw4 (by kernel_rfl) zsz rfl h31
      exact flw_val rfl rfl (.bool true) (ex_pick (.tmp 28) (.tmp 31) _ rfl true r28 ((if_pos rfl).trans r31)) hS (Flz.refl _) (updF_self _ _ _)
    · intro f w1 hS hf
      generalize hA : putAll _ _ f = A
      have h32 : f 13 = .bool true := hf 13 (by decide)
      have r32 : A.eval (.tmp 32) = .bool true := by rw [← hA]; exact putAll_at f 32 13 slotsAw4 a0 sbAw4 (by kernel_rfl) zsz rfl h32
      exact flw_val rfl rfl (.bool true) (ex_move (.tmp 32) rfl r32) hS (Flz.refl _) (updF_self _ _ _)
    · intro f w1 hS hf
      generalize hA : putAll _ _ f = A
      have g33 : f 14 = .bool true := hf 14 (by decide)
      have t33 : A.tmps[33]? = some (.bool true) := by rw [← hA]; exact putAll_g f 33 14 slotsAw4 a0 sbAw4 (by kernel_rfl) zsz rfl g33
      have r2 : A.eval (.tmp 2) = .pointer (some ⟨b2_3, 0, none⟩) := by rw [← hA]; exact putAll_off f 2 slotsAw4 a0 (by kernel_rfl) z2
      exact flw_val rfl ((wanted_of rfl 33 rfl t33).trans rfl) (aggC (putC zC (shaU tX))) (ex_loadR 28 (.tmp 2) rfl ⟨b2_3, 0, none⟩ r2 (fun _ => by kernel_rfl) (encC (putC zC (shaU tX))) (by rw [encC_len]; kernel_rfl) ((HX_b2_3.out.keepB hS).part (encC (putC zC (shaU tX))) 0 (encC_all (putC zC (shaU tX))))) hS (Flz.refl _) (updF_self _ _ _)
    · intro f w1 hS hf
      generalize hA : putAll _ _ f = A
      have g33 : f 14 = .bool true := hf 14 (by decide)
      have t33 : A.tmps[33]? = some (.bool true) := by rw [← hA]; exact putAll_g f 33 14 slotsAw4 a0 sbAw4 (by kernel_rfl) zsz rfl g33
      have r1 : A.eval (.tmp 1) = .pointer (some ⟨b1_4, 0, none⟩) := by rw [← hA]; exact putAll_off f 1 slotsAw4 a0 (by kernel_rfl) z1
      exact flw_val rfl ((wanted_of rfl 33 rfl t33).trans rfl) (.agg (encU (shaU tX)).toArray) (ex_loadR 24 (.tmp 1) rfl ⟨b1_4, 0, none⟩ r1 (fun _ => by kernel_rfl) (encU (shaU tX)) (by rw [encU_len]; kernel_rfl) ((HX_b1_4.out.keepB hS).part (encU (shaU tX)) 0 (encU_all' (shaU tX)))) hS (Flz.refl _) (updF_self _ _ _)
    · intro f w1 hS hf
      generalize hA : putAll _ _ f = A
      have g33 : f 14 = .bool true := hf 14 (by decide)
      have t33 : A.tmps[33]? = some (.bool true) := by rw [← hA]; exact putAll_g f 33 14 slotsAw4 a0 sbAw4 (by kernel_rfl) zsz rfl g33
      have h34 : f 15 = aggC (putC zC (shaU tX)) := hf 15 (by decide)
      have r34 : A.eval (.tmp 34) = aggC (putC zC (shaU tX)) := by rw [← hA]; exact putAll_at f 34 15 slotsAw4 a0 sbAw4 (by kernel_rfl) zsz rfl h34
      have h35 : f 16 = .agg (encU (shaU tX)).toArray := hf 16 (by decide)
      have r35 : A.eval (.tmp 35) = .agg (encU (shaU tX)).toArray := by rw [← hA]; exact putAll_at f 35 16 slotsAw4 a0 sbAw4 (by kernel_rfl) zsz rfl h35
      exact flw_call rfl ((wanted_of rfl 33 rfl t33).trans rfl) 14 #[(.tmp 34), (.tmp 35)] _ rfl #[aggC (putC zC (shaU tX)), .agg (encU (shaU tX)).toArray] (by simp only [List.map_toArray, List.map_cons, List.map_nil, r34, r35]) (fun w => by kernel_rfl) (fun v _ => v = aggC (takeC (putC zC (shaU tX)) (shaU tX))) (take_any (putC zC (shaU tX)) (shaU tX) w1 (HL.out.keep (HB.out.trans (hS.mono HB.out.size)) HSZ.out)) (fun v w' hr hb => ⟨hS.trans (hb.mono hS.size), Flz.of hb, (updF_self _ _ _).trans hr⟩)
    · intro f w1 hS hf
      generalize hA : putAll _ _ f = A
      have g33 : f 14 = .bool true := hf 14 (by decide)
      have t33 : A.tmps[33]? = some (.bool true) := by rw [← hA]; exact putAll_g f 33 14 slotsAw4 a0 sbAw4 (by kernel_rfl) zsz rfl g33
      have h36 : f 17 = aggC (takeC (putC zC (shaU tX)) (shaU tX)) := hf 17 (by decide)
      have r36 : A.eval (.tmp 36) = aggC (takeC (putC zC (shaU tX)) (shaU tX)) := by rw [← hA]; exact putAll_at f 36 17 slotsAw4 a0 sbAw4 (by kernel_rfl) zsz rfl h36
      exact flw_call rfl ((wanted_of rfl 33 rfl t33).trans rfl) 16 #[(.tmp 36)] _ rfl #[aggC (takeC (putC zC (shaU tX)) (shaU tX))] (by simp only [List.map_toArray, List.map_cons, List.map_nil, r36]) (fun w => by kernel_rfl) (fun v _ => v = .bool true) (as_any (zeroC_any (takeC (putC zC (shaU tX)) (shaU tX)) w1) (congrArg Value.bool (decide_eq_true (take_put okC_zero _)))) (fun v w' hr hb => ⟨hS.trans (hb.mono hS.size), Flz.of hb, (updF_self _ _ _).trans hr⟩)
    · intro f w1 hS hf
      generalize hA : putAll _ _ f = A
      have h33 : f 14 = .bool true := hf 14 (by decide)
      have r33 : A.eval (.tmp 33) = .bool true := by rw [← hA]; exact putAll_at f 33 14 slotsAw4 a0 sbAw4 (by kernel_rfl) zsz rfl h33
      have h37 : f 18 = .bool true := hf 18 (by decide)
      have r37 : A.eval (.tmp 37) = .bool true := by rw [← hA]; exact putAll_at f 37 18 slotsAw4 a0 sbAw4 (by kernel_rfl) zsz rfl h37
      exact flw_val rfl rfl (.bool true) (ex_pick (.tmp 33) (.tmp 37) _ rfl true r33 ((if_pos rfl).trans r37)) hS (Flz.refl _) (updF_self _ _ _)
    · intro f w1 hS hf
      generalize hA : putAll _ _ f = A
      have h38 : f 19 = .bool true := hf 19 (by decide)
      have r38 : A.eval (.tmp 38) = .bool true := by rw [← hA]; exact putAll_at f 38 19 slotsAw4 a0 sbAw4 (by kernel_rfl) zsz rfl h38
      exact flw_val rfl rfl (.bool true) (ex_assign (.tmp 38) rfl r38) hS (Flz.refl _) (updF_self _ _ _)
  intro f u4 hS hf hap
  have h0 : f 0 = .bool true := hf 0 (by decide)
  have h1 : f 1 = .bool true := hf 1 (by decide)
  have h2 : f 2 = .bool true := hf 2 (by decide)
  have h3 : f 3 = .bool true := hf 3 (by decide)
  have h4 : f 4 = .bool true := hf 4 (by decide)
  have h5 : f 5 = .agg (encU (shaU tX)).toArray := hf 5 (by decide)
  have h6 : f 6 = .agg (encU (shaU tX)).toArray := hf 6 (by decide)
  have h7 : f 7 = .bool true := hf 7 (by decide)
  have h8 : f 8 = .bool true := hf 8 (by decide)
  have h9 : f 9 = .bool true := hf 9 (by decide)
  have h10 : f 10 = aggC (putC zC (shaU tX)) := hf 10 (by decide)
  have h11 : f 11 = .bool false := hf 11 (by decide)
  have h12 : f 12 = .bool true := hf 12 (by decide)
  have h13 : f 13 = .bool true := hf 13 (by decide)
  have h14 : f 14 = .bool true := hf 14 (by decide)
  have h15 : f 15 = aggC (putC zC (shaU tX)) := hf 15 (by decide)
  have h16 : f 16 = .agg (encU (shaU tX)).toArray := hf 16 (by decide)
  have h17 : f 17 = aggC (takeC (putC zC (shaU tX)) (shaU tX)) := hf 17 (by decide)
  have h18 : f 18 = .bool true := hf 18 (by decide)
  have h19 : f 19 = .bool true := hf 19 (by decide)
  have h20 : f 20 = .bool true := hf 20 (by decide)
  clear hf hap
  clear zsz z5 z4 z3 z1 z2
  subst ha0
  simp only [slotsAw4, putAll, h0, h1, h2, h3, h4, h5, h6, h7, h8, h9, h10, h11, h12, h13, h14, h15, h16, h17, h18, h19, h20, Act.put, List.setIfInBounds_toArray, List.set_cons_zero, List.set_cons_succ]
  clear h0 h1 h2 h3 h4 h5 h6 h7 h8 h9 h10 h11 h12 h13 h14 h15 h16 h17 h18 h19 h20
  refine tl_nil ?_
  replace HX_b1_4 := Lib.hid (HX_b1_4.out.keepB hS)
  replace HX_b2_3 := Lib.hid (HX_b2_3.out.keepB hS)
  replace HX_b3_6 := Lib.hid (HX_b3_6.out.keepB hS)
  replace HB := Lib.hid (HB.out.trans (hS.mono HB.out.size))
  clear hS
  go_wp2_with fail
  go_ret
  exact ⟨⟨_, rfl, rfl⟩, HB.out⟩
theorem awake13_any  (w : World) (hL : Laid w) : Calls Tryd.prog 9 #[] w fun e w' => (∃ v, e = .returned v ∧ v = .bool true) ∧ Below w.heap.size w w' := awake13_b  w w (Below.refl _ _) hL
end Go.Proofs.YtihkbblapfjobaaDoor
