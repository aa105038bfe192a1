/- The law PlaceKnown: it answers true. Condition: the sums' tables are laid. -/
import Derived.Test.YtbkddcafalhflaaDoorGp3
import Derived.Test.YtbkddcafalhflaaDoorFox
namespace Go.Proofs.YtbkddcafalhflaaDoor
open Go.RowKit
def badN : List Int := [0, -3, 1, 4, 1024, 1026, 1099511627776]
theorem badN_at : ∀ i (h : i < 7), goodN (badN[i]'h) = false := by decide
def waitPkn1 (i : Nat) : List Nat := ([[], [0]] : List (List Nat)).getD i []
def slotsPkn1 : List (Nat × Nat) := [(3, 0), (4, 1)]
theorem sbPkn1 : slotsB slotsPkn1 = true := by kernel_rfl
theorem chkPkn1 : flwO slotsPkn1 waitPkn1 2 (regOf Tryd.f3.body 1) = true := by kernel_rfl
def waitPkn7 (i : Nat) : List Nat := ([[], [], [0, 1], [2], [3], [4], [5], [5], [5, 6, 7], [5, 8], [5], [5, 9, 10], [5, 11], [5, 12], [5, 13]] : List (List Nat)).getD i []
def slotsPkn7 : List (Nat × Nat) := [(12, 0), (13, 1), (14, 2), (15, 3), (16, 4), (17, 5), (18, 6), (19, 7), (20, 8), (21, 9), (22, 10), (23, 11), (24, 12), (25, 13), (26, 14)]
theorem sbPkn7 : slotsB slotsPkn7 = true := by kernel_rfl
theorem chkPkn7 : flwO slotsPkn7 waitPkn7 15 (regOf Tryd.f3.body 7) = true := by kernel_rfl
def waitPkn9 (i : Nat) : List Nat := ([[], [0], [1], [1, 2], [1, 3], [1, 4], [1, 5], [6]] : List (List Nat)).getD i []
def slotsPkn9 : List (Nat × Nat) := [(27, 0), (28, 1), (29, 2), (30, 3), (31, 4), (32, 5), (33, 6), (0, 7)]
theorem sbPkn9 : slotsB slotsPkn9 = true := by kernel_rfl
theorem chkPkn9 : flwO slotsPkn9 waitPkn9 8 (regOf Tryd.f3.body 9) = true := by kernel_rfl
set_option maxHeartbeats 4000000 in
set_option maxRecDepth 100000 in
theorem placeKnown_law (w : World) (hL : Laid w) : Calls Tryd.prog 3 #[] w fun e w' => e = .returned (.bool true) ∧ Below w.heap.size w w' := by
  have HL := Lib.hid hL
  have HSZ := Lib.hid hL.size
  have HB : Hid (Below w.heap.size w w) := Lib.hid (Below.refl _ _)
  clear hL
  go_enter Tryd.func3, Tryd.ntmps3
  go_upto_region 1 with fail
  refine wp_act (fun a0 ha0 => ?_)
  have zsz : a0.tmps.size = 34 := by rw [ha0]; rfl
  refine wp_region_flwo (E := Flz) [] slotsPkn1 waitPkn1 [Fct.val Flz 0 (.bool true), Fct.val Flz 1 (.bool false)] (fun w' => Below w.heap.size w w') _ 2 0 chkPkn1 (by kernel_rfl) (by kernel_rfl) (by kernel_rfl) (by decide) (Below.refl _ _) ?_ ?_
  · refine lt_s (lt_s (lt_0) ?_) ?_
    · intro f w1 hS hf
      generalize hA : putAll _ _ f = aA
      exact flw_call rfl rfl 6 #[] _ rfl #[] (by kernel_rfl) (fun w => by kernel_rfl) (fun v _ => v = .bool true) (awake14_any w1 (HL.out.keep (HB.out.trans (hS.mono HB.out.size)) HSZ.out)) (fun v w' hr hb => ⟨hS.trans (hb.mono hS.size), Flz.of hb, (updF_self _ _ _).trans hr⟩)
    · intro f w1 hS hf
      generalize hA : putAll _ _ f = aA
      have h3 : f 0 = .bool true := hf 0 (by decide)
      have r3 : aA.eval (.tmp 3) = .bool true := by rw [← hA]; exact putAll_at f 3 0 slotsPkn1 a0 sbPkn1 (by kernel_rfl) zsz rfl h3
      exact flw_val rfl rfl (.bool false) (ex_not _ (.tmp 3) rfl r3) hS (Flz.refl _) (updF_self _ _ _)
  intro f u1 hS hf hap
  have h0 : f 0 = .bool true := hf 0 (by decide)
  have h1 : f 1 = .bool false := hf 1 (by decide)
  clear hf hap
  clear zsz
  subst ha0
  simp only [slotsPkn1, putAll, h0, h1, Act.put, List.setIfInBounds_toArray, List.set_cons_zero, List.set_cons_succ]
  clear h0 h1
  refine tl_nil ?_
  replace HB := Lib.hid (HB.out.trans (hS.mono HB.out.size))
  clear hS
  go_wp2_with fail
  generalize hW : World.alloc u1 _ = u2
  have HR : Hid (Has u2 u1.heap.size 3 (badN.map fun n => Value.int .i64 n)) := Lib.hid (by subst hW; exact Has.made' _ _ _ _ rfl)
  have HGR : Hid (w.heap.size ≤ u1.heap.size) := Lib.hid HB.out.size
  replace HB : Hid (Below w.heap.size w u2) := Lib.hid (by subst hW; exact HB.out.alloc HGR.out _)
  clear hW
  generalize u1.heap.size = gr at *
  go_loopw [2] (fun vi wr => ∃ i : Nat, i ≤ 7 ∧ vi = .int .i64 i ∧ Has wr gr 3 (badN.map fun n => Value.int .i64 n) ∧ Below w.heap.size w wr) (fun vi _ => 7 - (intOf vi).toNat)
  case atStart => exact ⟨0, by omega, rfl, HR.out, HB.out⟩
  case round =>
    clear HR HB
    rename_i wr
    obtain ⟨i, hi, rfl, hr, hB⟩ := hrel
    have HR := Lib.hid hr
    have HB := Lib.hid hB
    clear hr hB
    by_cases hlt : i < 7
    · have HBD := Lib.hid (badN_at i hlt)
      have HCV : Hid (∀ w', Below wr.heap.size wr w' → w'.cell? ((⟨gr, 0, none⟩ : Addr).add (i * 1)) = some (.int .i64 (badN[i]'hlt))) := Lib.hid (fun w' hb => by
        rw [add_lit', Nat.zero_add, Nat.mul_one]
        refine (hb.cell (p := ⟨gr, i, none⟩) HR.out.lt).trans (HR.out.cellv ?_)
        rw [List.getElem?_map, List.getElem?_eq_getElem hlt]; rfl)
      generalize badN[i]'hlt = nv at *
      have i1 : (i : Int) < 7 := by omega
      go_upto_region 7 with fail
      refine wp_act (fun a0 ha0 => ?_)
      have zsz : a0.tmps.size = 34 := by rw [ha0]; rfl
      have z1 : a0.eval (.tmp 1) = .slice (some ⟨gr, 0, none⟩) 7 7 := by rw [ha0]; rfl
      have z2 : a0.eval (.tmp 2) = .int .i64 ((i : Int)) := by rw [ha0]; rfl
      refine wp_region_flwo (E := Flz) [] slotsPkn7 waitPkn7 [Fct.val Flz 0 (.slice (some ⟨gr, 0, none⟩) 7 7), Fct.val Flz 1 (.int .i64 ((i : Int))), Fct.val Flz 2 (.pointer (some ((⟨gr, 0, none⟩ : Addr).add (i * 1)))), Fct.val Flz 3 (.int .i64 nv), Fct.val Flz 4 (.bool false), Fct.val Flz 5 (.bool false), Fct.val Flz 6 (.slice (some ⟨gr, 0, none⟩) 7 7), Fct.val Flz 7 (.int .i64 ((i : Int))), Fct.val Flz 8 (.pointer (some ((⟨gr, 0, none⟩ : Addr).add (i * 1)))), Fct.val Flz 9 (.int .i64 nv), Fct.val Flz 10 (.agg (encU zS).toArray), Fct.obj 11 (fun v w => Ins w v (places 1 nv zS)) (fun _ _ _ h he => h.flzE he), Fct.val Flz 12 (.int .i64 0), Fct.val Flz 13 (.bool ((0 : Int) != (0 : Int))), Fct.val Flz 14 (.bool ((0 : Int) != (0 : Int)))] (fun w' => Below wr.heap.size wr w') _ 15 0 chkPkn7 (by kernel_rfl) (by kernel_rfl) (by kernel_rfl) (by decide) (Below.refl _ _) ?_ ?_
      · refine lt_s (lt_s (lt_s (lt_s (lt_s (lt_s (lt_s (lt_s (lt_s (lt_s (lt_s (lt_s (lt_s (lt_s (lt_s (lt_0) ?_) ?_) ?_) ?_) ?_) ?_) ?_) ?_) ?_) ?_) ?_) ?_) ?_) ?_) ?_
        · intro f w1 hS hf
          generalize hA : putAll _ _ f = aA
          have r1 : aA.eval (.tmp 1) = .slice (some ⟨gr, 0, none⟩) 7 7 := by rw [← hA]; exact putAll_off f 1 slotsPkn7 a0 (by kernel_rfl) z1
          exact flw_val rfl rfl (.slice (some ⟨gr, 0, none⟩) 7 7) (ex_move (.tmp 1) rfl r1) hS (Flz.refl _) (updF_self _ _ _)
        · intro f w1 hS hf
          generalize hA : putAll _ _ f = aA
          have r2 : aA.eval (.tmp 2) = .int .i64 ((i : Int)) := by rw [← hA]; exact putAll_off f 2 slotsPkn7 a0 (by kernel_rfl) z2
          exact flw_val rfl rfl (.int .i64 ((i : Int))) (ex_move (.tmp 2) rfl r2) hS (Flz.refl _) (updF_self _ _ _)
        · intro f w1 hS hf
          generalize hA : putAll _ _ f = aA
          have h12 : f 0 = .slice (some ⟨gr, 0, none⟩) 7 7 := hf 0 (by decide)
          have r12 : aA.eval (.tmp 12) = .slice (some ⟨gr, 0, none⟩) 7 7 := by rw [← hA]; exact putAll_at f 12 0 slotsPkn7 a0 sbPkn7 (by kernel_rfl) zsz rfl h12
          have h13 : f 1 = .int .i64 ((i : Int)) := hf 1 (by decide)
          have r13 : aA.eval (.tmp 13) = .int .i64 ((i : Int)) := by rw [← hA]; exact putAll_at f 13 1 slotsPkn7 a0 sbPkn7 (by kernel_rfl) zsz rfl h13
          exact flw_val rfl rfl (.pointer (some ((⟨gr, 0, none⟩ : Addr).add (i * 1)))) (ex_indexS 23 3 (.tmp 12) (.tmp 13) rfl (⟨gr, 0, none⟩ : Addr) 7 7 i 1 (by kernel_rfl) (fun _ => by kernel_rfl) r12 r13 hlt) hS (Flz.refl _) (updF_self _ _ _)
        · intro f w1 hS hf
          generalize hA : putAll _ _ f = aA
          have h14 : f 2 = .pointer (some ((⟨gr, 0, none⟩ : Addr).add (i * 1))) := hf 2 (by decide)
          have r14 : aA.eval (.tmp 14) = .pointer (some ((⟨gr, 0, none⟩ : Addr).add (i * 1))) := by rw [← hA]; exact putAll_at f 14 2 slotsPkn7 a0 sbPkn7 (by kernel_rfl) zsz rfl h14
          exact flw_val rfl rfl (.int .i64 nv) (ex_load1 3 (.tmp 14) rfl ((⟨gr, 0, none⟩ : Addr).add (i * 1)) r14 (fun _ => by kernel_rfl) (HCV.out w1 hS)) hS (Flz.refl _) (updF_self _ _ _)
        · intro f w1 hS hf
          generalize hA : putAll _ _ f = aA
          have h15 : f 3 = .int .i64 nv := hf 3 (by decide)
          have r15 : aA.eval (.tmp 15) = .int .i64 nv := by rw [← hA]; exact putAll_at f 15 3 slotsPkn7 a0 sbPkn7 (by kernel_rfl) zsz rfl h15
          exact flw_call rfl rfl 7 #[(.tmp 15)] _ rfl #[.int .i64 nv] (by simp only [List.map_toArray, List.map_cons, List.map_nil, r15]) (fun w => by kernel_rfl) (fun v _ => v = .bool false) (as_any (good14_any nv w1) (congrArg Value.bool HBD.out)) (fun v w' hr hb => ⟨hS.trans (hb.mono hS.size), Flz.of hb, (updF_self _ _ _).trans hr⟩)
        · intro f w1 hS hf
          generalize hA : putAll _ _ f = aA
          have h16 : f 4 = .bool false := hf 4 (by decide)
          have r16 : aA.eval (.tmp 16) = .bool false := by rw [← hA]; exact putAll_at f 16 4 slotsPkn7 a0 sbPkn7 (by kernel_rfl) zsz rfl h16
          exact flw_val rfl rfl (.bool false) (ex_move (.tmp 16) rfl r16) hS (Flz.refl _) (updF_self _ _ _)
        · intro f w1 hS hf
          generalize hA : putAll _ _ f = aA
          have g17 : f 5 = .bool false := hf 5 (by decide)
          have t17 : aA.tmps[17]? = some (.bool false) := by rw [← hA]; exact putAll_g f 17 5 slotsPkn7 a0 sbPkn7 (by kernel_rfl) zsz rfl g17
          have r1 : aA.eval (.tmp 1) = .slice (some ⟨gr, 0, none⟩) 7 7 := by rw [← hA]; exact putAll_off f 1 slotsPkn7 a0 (by kernel_rfl) z1
          exact flw_val rfl ((wanted_of rfl 17 rfl t17).trans rfl) (.slice (some ⟨gr, 0, none⟩) 7 7) (ex_move (.tmp 1) rfl r1) hS (Flz.refl _) (updF_self _ _ _)
        · intro f w1 hS hf
          generalize hA : putAll _ _ f = aA
          have g17 : f 5 = .bool false := hf 5 (by decide)
          have t17 : aA.tmps[17]? = some (.bool false) := by rw [← hA]; exact putAll_g f 17 5 slotsPkn7 a0 sbPkn7 (by kernel_rfl) zsz rfl g17
          have r2 : aA.eval (.tmp 2) = .int .i64 ((i : Int)) := by rw [← hA]; exact putAll_off f 2 slotsPkn7 a0 (by kernel_rfl) z2
          exact flw_val rfl ((wanted_of rfl 17 rfl t17).trans rfl) (.int .i64 ((i : Int))) (ex_move (.tmp 2) rfl r2) hS (Flz.refl _) (updF_self _ _ _)
        · intro f w1 hS hf
          generalize hA : putAll _ _ f = aA
          have g17 : f 5 = .bool false := hf 5 (by decide)
          have t17 : aA.tmps[17]? = some (.bool false) := by rw [← hA]; exact putAll_g f 17 5 slotsPkn7 a0 sbPkn7 (by kernel_rfl) zsz rfl g17
          have h18 : f 6 = .slice (some ⟨gr, 0, none⟩) 7 7 := hf 6 (by decide)
          have r18 : aA.eval (.tmp 18) = .slice (some ⟨gr, 0, none⟩) 7 7 := by rw [← hA]; exact putAll_at f 18 6 slotsPkn7 a0 sbPkn7 (by kernel_rfl) zsz rfl h18
          have h19 : f 7 = .int .i64 ((i : Int)) := hf 7 (by decide)
          have r19 : aA.eval (.tmp 19) = .int .i64 ((i : Int)) := by rw [← hA]; exact putAll_at f 19 7 slotsPkn7 a0 sbPkn7 (by kernel_rfl) zsz rfl h19
          exact flw_val rfl ((wanted_of rfl 17 rfl t17).trans rfl) (.pointer (some ((⟨gr, 0, none⟩ : Addr).add (i * 1)))) (ex_indexS 23 3 (.tmp 18) (.tmp 19) rfl (⟨gr, 0, none⟩ : Addr) 7 7 i 1 (by kernel_rfl) (fun _ => by kernel_rfl) r18 r19 hlt) hS (Flz.refl _) (updF_self _ _ _)
        · intro f w1 hS hf
          generalize hA : putAll _ _ f = aA
          have g17 : f 5 = .bool false := hf 5 (by decide)
          have t17 : aA.tmps[17]? = some (.bool false) := by rw [← hA]; exact putAll_g f 17 5 slotsPkn7 a0 sbPkn7 (by kernel_rfl) zsz rfl g17
          have h20 : f 8 = .pointer (some ((⟨gr, 0, none⟩ : Addr).add (i * 1))) := hf 8 (by decide)
          have r20 : aA.eval (.tmp 20) = .pointer (some ((⟨gr, 0, none⟩ : Addr).add (i * 1))) := by rw [← hA]; exact putAll_at f 20 8 slotsPkn7 a0 sbPkn7 (by kernel_rfl) zsz rfl h20
          exact flw_val rfl ((wanted_of rfl 17 rfl t17).trans rfl) (.int .i64 nv) (ex_load1 3 (.tmp 20) rfl ((⟨gr, 0, none⟩ : Addr).add (i * 1)) r20 (fun _ => by kernel_rfl) (HCV.out w1 hS)) hS (Flz.refl _) (updF_self _ _ _)
        · intro f w1 hS hf
          generalize hA : putAll _ _ f = aA
          have g17 : f 5 = .bool false := hf 5 (by decide)
          have t17 : aA.tmps[17]? = some (.bool false) := by rw [← hA]; exact putAll_g f 17 5 slotsPkn7 a0 sbPkn7 (by kernel_rfl) zsz rfl g17
          exact flw_val rfl ((wanted_of rfl 17 rfl t17).trans rfl) (.agg (encU zS).toArray) (ex_build 28 _ rfl (encU zS).toArray [] (by kernel_rfl) (by kernel_rfl)) hS (Flz.refl _) (updF_self _ _ _)
        · intro f w1 hS hf
          generalize hA : putAll _ _ f = aA
          have g17 : f 5 = .bool false := hf 5 (by decide)
          have t17 : aA.tmps[17]? = some (.bool false) := by rw [← hA]; exact putAll_g f 17 5 slotsPkn7 a0 sbPkn7 (by kernel_rfl) zsz rfl g17
          have h21 : f 9 = .int .i64 nv := hf 9 (by decide)
          have r21 : aA.eval (.tmp 21) = .int .i64 nv := by rw [← hA]; exact putAll_at f 21 9 slotsPkn7 a0 sbPkn7 (by kernel_rfl) zsz rfl h21
          have h22 : f 10 = .agg (encU zS).toArray := hf 10 (by decide)
          have r22 : aA.eval (.tmp 22) = .agg (encU zS).toArray := by rw [← hA]; exact putAll_at f 22 10 slotsPkn7 a0 sbPkn7 (by kernel_rfl) zsz rfl h22
          exact flw_call rfl ((wanted_of rfl 17 rfl t17).trans rfl) 8 #[_, (.tmp 21), (.tmp 22)] _ rfl #[.int .u64 1, .int .i64 nv, .agg (encU zS).toArray] (by simp only [List.map_toArray, List.map_cons, List.map_nil, r21, r22]; rfl) (fun w => by kernel_rfl) (fun v w' => Ins w' v (places 1 nv zS)) (placeOf_any 1 (by decide) nv zS w1 (HL.out.keep (HB.out.trans (hS.mono HB.out.size)) HSZ.out)) (fun v w' hr hb => ⟨hS.trans (hb.mono hS.size), Flz.of hb, (show Ins w' (updF f 11 v 11) (places 1 nv zS) by rw [updF_self]; exact hr)⟩)
        · intro f w1 hS hf
          generalize hA : putAll _ _ f = aA
          have g17 : f 5 = .bool false := hf 5 (by decide)
          have t17 : aA.tmps[17]? = some (.bool false) := by rw [← hA]; exact putAll_g f 17 5 slotsPkn7 a0 sbPkn7 (by kernel_rfl) zsz rfl g17
          have hu11 : Ins w1 (f 11) (places 1 nv zS) := (hf 11 (by decide))
          have e23 : aA.eval (.tmp 23) = f 11 := by rw [← hA]; exact putAll_at f 23 11 slotsPkn7 a0 sbPkn7 (by kernel_rfl) zsz rfl rfl
          obtain ⟨q9, c9, hv9, _⟩ := hu11
          exact flw_val rfl ((wanted_of rfl 17 rfl t17).trans rfl) (.int .i64 0) (Eq.trans (ex_len 23 3 (.tmp 23) rfl (by kernel_rfl) q9 (places 1 nv zS).length c9 (e23.trans hv9)) (by rw [show (((places 1 nv zS).length : Nat) : Int) = 0 from (by rw [places_none HBD.out]; rfl)])) hS (Flz.refl _) (updF_self _ _ _)
        · intro f w1 hS hf
          generalize hA : putAll _ _ f = aA
          have g17 : f 5 = .bool false := hf 5 (by decide)
          have t17 : aA.tmps[17]? = some (.bool false) := by rw [← hA]; exact putAll_g f 17 5 slotsPkn7 a0 sbPkn7 (by kernel_rfl) zsz rfl g17
          have h24 : f 12 = .int .i64 0 := hf 12 (by decide)
          have r24 : aA.eval (.tmp 24) = .int .i64 0 := by rw [← hA]; exact putAll_at f 24 12 slotsPkn7 a0 sbPkn7 (by kernel_rfl) zsz rfl h24
          exact flw_val rfl ((wanted_of rfl 17 rfl t17).trans rfl) (.bool ((0 : Int) != (0 : Int))) (ex_int .neq _ _ (.tmp 24) _ rfl .i64 0 0 r24 rfl (.bool ((0 : Int) != (0 : Int))) (fun _ => rfl)) hS (Flz.refl _) (updF_self _ _ _)
        · intro f w1 hS hf
          generalize hA : putAll _ _ f = aA
          have h17 : f 5 = .bool false := hf 5 (by decide)
          have r17 : aA.eval (.tmp 17) = .bool false := by rw [← hA]; exact putAll_at f 17 5 slotsPkn7 a0 sbPkn7 (by kernel_rfl) zsz rfl h17
          have h25 : f 13 = .bool ((0 : Int) != (0 : Int)) := hf 13 (by decide)
          have r25 : aA.eval (.tmp 25) = .bool ((0 : Int) != (0 : Int)) := by rw [← hA]; exact putAll_at f 25 13 slotsPkn7 a0 sbPkn7 (by kernel_rfl) zsz rfl h25
          exact flw_val rfl rfl (.bool ((0 : Int) != (0 : Int))) (ex_pick (.tmp 17) _ (.tmp 25) rfl false r17 ((if_neg (by decide)).trans r25)) hS (Flz.refl _) (updF_self _ _ _)
      intro f u7 hS hf hap
      have h0 : f 0 = .slice (some ⟨gr, 0, none⟩) 7 7 := hf 0 (by decide)
      have h1 : f 1 = .int .i64 ((i : Int)) := hf 1 (by decide)
      have h2 : f 2 = .pointer (some ((⟨gr, 0, none⟩ : Addr).add (i * 1))) := hf 2 (by decide)
      have h3 : f 3 = .int .i64 nv := hf 3 (by decide)
      have h4 : f 4 = .bool false := hf 4 (by decide)
      have h5 : f 5 = .bool false := hf 5 (by decide)
      have h6 : f 6 = .slice (some ⟨gr, 0, none⟩) 7 7 := hf 6 (by decide)
      have h7 : f 7 = .int .i64 ((i : Int)) := hf 7 (by decide)
      have h8 : f 8 = .pointer (some ((⟨gr, 0, none⟩ : Addr).add (i * 1))) := hf 8 (by decide)
      have h9 : f 9 = .int .i64 nv := hf 9 (by decide)
      have h10 : f 10 = .agg (encU zS).toArray := hf 10 (by decide)
      obtain ⟨v7_11, h11, hu11⟩ : ∃ v, f 11 = v ∧ Ins u7 v (places 1 nv zS) := ⟨_, rfl, (hf 11 (by decide))⟩
      have HU7_11 := Lib.hid hu11
      clear hu11
      have h12 : f 12 = .int .i64 0 := hf 12 (by decide)
      have h13 : f 13 = .bool ((0 : Int) != (0 : Int)) := hf 13 (by decide)
      have h14 : f 14 = .bool ((0 : Int) != (0 : Int)) := hf 14 (by decide)
      clear hf hap
      clear zsz z1 z2
      subst ha0
      simp only [slotsPkn7, putAll, h0, h1, h2, h3, h4, h5, h6, h7, h8, h9, h10, h11, h12, h13, h14, Act.put, List.setIfInBounds_toArray, List.set_cons_zero, List.set_cons_succ]
      clear h0 h1 h2 h3 h4 h5 h6 h7 h8 h9 h10 h11 h12 h13 h14
      refine tl_nil ?_
      replace HR := Lib.hid (HR.out.keepB hS)
      replace HB := Lib.hid (HB.out.trans (hS.mono HB.out.size))
      clear hS
      go_wp2_with fail
      go_roundw
      case rel => exact ⟨i + 1, by omega, by go_num, HR.out, HB.out⟩
      case measure => simp [intOf]; omega
    · have : i = 7 := by omega
      subst this
      have i1 : ¬ ((7 : Nat) : Int) < 7 := by omega
      go_upto_region 9 with fail
      refine wp_act (fun a0 ha0 => ?_)
      have zsz : a0.tmps.size = 34 := by rw [ha0]; rfl
      refine wp_region_flwo (E := Flz) [] slotsPkn9 waitPkn9 [Fct.val Flz 0 (.bool true), Fct.val Flz 1 (.bool true), Fct.val Flz 2 (.agg (encU zS).toArray), Fct.obj 3 (fun v w => Ins w v (places 1 1023 zS)) (fun _ _ _ h he => h.flzE he), Fct.val Flz 4 (.int .i64 3), Fct.val Flz 5 (.bool ((3 : Int) == (3 : Int))), Fct.val Flz 6 (.bool ((3 : Int) == (3 : Int))), Fct.val Flz 7 (.bool ((3 : Int) == (3 : Int)))] (fun w' => Below wr.heap.size wr w') _ 8 0 chkPkn9 (by kernel_rfl) (by kernel_rfl) (by kernel_rfl) (by decide) (Below.refl _ _) ?_ ?_
      · refine lt_s (lt_s (lt_s (lt_s (lt_s (lt_s (lt_s (lt_s (lt_0) ?_) ?_) ?_) ?_) ?_) ?_) ?_) ?_
        · intro f w1 hS hf
          generalize hA : putAll _ _ f = aA
          exact flw_call rfl rfl 7 #[_] _ rfl #[.int .i64 1023] (by kernel_rfl) (fun w => by kernel_rfl) (fun v _ => v = .bool true) (as_any (good14_any 1023 w1) (congrArg Value.bool (by decide : goodN 1023 = true))) (fun v w' hr hb => ⟨hS.trans (hb.mono hS.size), Flz.of hb, (updF_self _ _ _).trans hr⟩)
        · intro f w1 hS hf
          generalize hA : putAll _ _ f = aA
          have h27 : f 0 = .bool true := hf 0 (by decide)
          have r27 : aA.eval (.tmp 27) = .bool true := by rw [← hA]; exact putAll_at f 27 0 slotsPkn9 a0 sbPkn9 (by kernel_rfl) zsz rfl h27
          exact flw_val rfl rfl (.bool true) (ex_move (.tmp 27) rfl r27) hS (Flz.refl _) (updF_self _ _ _)
        · intro f w1 hS hf
          generalize hA : putAll _ _ f = aA
          have g28 : f 1 = .bool true := hf 1 (by decide)
          have t28 : aA.tmps[28]? = some (.bool true) := by rw [← hA]; exact putAll_g f 28 1 slotsPkn9 a0 sbPkn9 (by kernel_rfl) zsz rfl g28
          exact flw_val rfl ((wanted_of rfl 28 rfl t28).trans rfl) (.agg (encU zS).toArray) (ex_build 28 _ rfl (encU zS).toArray [] (by kernel_rfl) (by kernel_rfl)) hS (Flz.refl _) (updF_self _ _ _)
        · intro f w1 hS hf
          generalize hA : putAll _ _ f = aA
          have g28 : f 1 = .bool true := hf 1 (by decide)
          have t28 : aA.tmps[28]? = some (.bool true) := by rw [← hA]; exact putAll_g f 28 1 slotsPkn9 a0 sbPkn9 (by kernel_rfl) zsz rfl g28
          have h29 : f 2 = .agg (encU zS).toArray := hf 2 (by decide)
          have r29 : aA.eval (.tmp 29) = .agg (encU zS).toArray := by rw [← hA]; exact putAll_at f 29 2 slotsPkn9 a0 sbPkn9 (by kernel_rfl) zsz rfl h29
          exact flw_call rfl ((wanted_of rfl 28 rfl t28).trans rfl) 8 #[_, _, (.tmp 29)] _ rfl #[.int .u64 1, .int .i64 1023, .agg (encU zS).toArray] (by simp only [List.map_toArray, List.map_cons, List.map_nil, r29]; rfl) (fun w => by kernel_rfl) (fun v w' => Ins w' v (places 1 1023 zS)) (placeOf_any 1 (by decide) 1023 zS w1 (HL.out.keep (HB.out.trans (hS.mono HB.out.size)) HSZ.out)) (fun v w' hr hb => ⟨hS.trans (hb.mono hS.size), Flz.of hb, (show Ins w' (updF f 3 v 3) (places 1 1023 zS) by rw [updF_self]; exact hr)⟩)
        · intro f w1 hS hf
          generalize hA : putAll _ _ f = aA
          have g28 : f 1 = .bool true := hf 1 (by decide)
          have t28 : aA.tmps[28]? = some (.bool true) := by rw [← hA]; exact putAll_g f 28 1 slotsPkn9 a0 sbPkn9 (by kernel_rfl) zsz rfl g28
          have hu3 : Ins w1 (f 3) (places 1 1023 zS) := (hf 3 (by decide))
          have e30 : aA.eval (.tmp 30) = f 3 := by rw [← hA]; exact putAll_at f 30 3 slotsPkn9 a0 sbPkn9 (by kernel_rfl) zsz rfl rfl
          obtain ⟨q9, c9, hv9, _⟩ := hu3
          exact flw_val rfl ((wanted_of rfl 28 rfl t28).trans rfl) (.int .i64 3) (Eq.trans (ex_len 23 3 (.tmp 30) rfl (by kernel_rfl) q9 (places 1 1023 zS).length c9 (e30.trans hv9)) (by rw [show (((places 1 1023 zS).length : Nat) : Int) = 3 from (by rw [places_len (by decide)]; rfl)])) hS (Flz.refl _) (updF_self _ _ _)
        · intro f w1 hS hf
          generalize hA : putAll _ _ f = aA
          have g28 : f 1 = .bool true := hf 1 (by decide)
          have t28 : aA.tmps[28]? = some (.bool true) := by rw [← hA]; exact putAll_g f 28 1 slotsPkn9 a0 sbPkn9 (by kernel_rfl) zsz rfl g28
          have h31 : f 4 = .int .i64 3 := hf 4 (by decide)
          have r31 : aA.eval (.tmp 31) = .int .i64 3 := by rw [← hA]; exact putAll_at f 31 4 slotsPkn9 a0 sbPkn9 (by kernel_rfl) zsz rfl h31
          exact flw_val rfl ((wanted_of rfl 28 rfl t28).trans rfl) (.bool ((3 : Int) == (3 : Int))) (ex_int .eql _ _ (.tmp 31) _ rfl .i64 3 3 r31 rfl (.bool ((3 : Int) == (3 : Int))) (fun _ => rfl)) hS (Flz.refl _) (updF_self _ _ _)
        · intro f w1 hS hf
          generalize hA : putAll _ _ f = aA
          have h28 : f 1 = .bool true := hf 1 (by decide)
          have r28 : aA.eval (.tmp 28) = .bool true := by rw [← hA]; exact putAll_at f 28 1 slotsPkn9 a0 sbPkn9 (by kernel_rfl) zsz rfl h28
          have h32 : f 5 = .bool ((3 : Int) == (3 : Int)) := hf 5 (by decide)
          have r32 : aA.eval (.tmp 32) = .bool ((3 : Int) == (3 : Int)) := by rw [← hA]; exact putAll_at f 32 5 slotsPkn9 a0 sbPkn9 (by kernel_rfl) zsz rfl h32
          exact flw_val rfl rfl (.bool ((3 : Int) == (3 : Int))) (ex_pick (.tmp 28) (.tmp 32) _ rfl true r28 ((if_pos rfl).trans r32)) hS (Flz.refl _) (updF_self _ _ _)
        · intro f w1 hS hf
          generalize hA : putAll _ _ f = aA
          have h33 : f 6 = .bool ((3 : Int) == (3 : Int)) := hf 6 (by decide)
          have r33 : aA.eval (.tmp 33) = .bool ((3 : Int) == (3 : Int)) := by rw [← hA]; exact putAll_at f 33 6 slotsPkn9 a0 sbPkn9 (by kernel_rfl) zsz rfl h33
          exact flw_val rfl rfl (.bool ((3 : Int) == (3 : Int))) (ex_assign (.tmp 33) rfl r33) hS (Flz.refl _) (updF_self _ _ _)
      intro f u9 hS hf hap
      have h0 : f 0 = .bool true := hf 0 (by decide)
      have h1 : f 1 = .bool true := hf 1 (by decide)
      have h2 : f 2 = .agg (encU zS).toArray := hf 2 (by decide)
      obtain ⟨v9_3, h3, hu3⟩ : ∃ v, f 3 = v ∧ Ins u9 v (places 1 1023 zS) := ⟨_, rfl, (hf 3 (by decide))⟩
      have HU9_3 := Lib.hid hu3
      clear hu3
      have h4 : f 4 = .int .i64 3 := hf 4 (by decide)
      have h5 : f 5 = .bool ((3 : Int) == (3 : Int)) := hf 5 (by decide)
      have h6 : f 6 = .bool ((3 : Int) == (3 : Int)) := hf 6 (by decide)
      have h7 : f 7 = .bool ((3 : Int) == (3 : Int)) := hf 7 (by decide)
      clear hf hap
      clear zsz
      subst ha0
      simp only [slotsPkn9, putAll, h0, h1, h2, h3, h4, h5, h6, h7, Act.put, List.setIfInBounds_toArray, List.set_cons_zero, List.set_cons_succ]
      clear h0 h1 h2 h3 h4 h5 h6 h7
      refine tl_nil ?_
      replace HB := Lib.hid (HB.out.trans (hS.mono HB.out.size))
      clear hS
      go_wp2_with fail
      go_ret
      exact ⟨rfl, HB.out⟩
end Go.Proofs.YtbkddcafalhflaaDoor
