/- Contracts: package cell's with, Put, Take, Minus. Condition: the sums' tables are laid (Put, Take). -/
import Derived.Test.YtihkbblapfjobaaDoorCe
import Derived.Test.YtihkbblapfjobaaDoorFob
namespace Go.Proofs.YtihkbblapfjobaaDoor
open Go.RowKit
def xorS (x y : Su) : Su := ⟨xorL x.1 y.1, xorL_length _ _ x.2 y.2⟩
theorem xorS_any (x y : Su) (w : World) : Calls Tryd.prog 66 #[.agg (encU x).toArray, .agg (encU y).toArray] w fun e w' => (∃ v, e = .returned v ∧ v = .agg (encU (xorS x y)).toArray) ∧ Below w.heap.size w w' :=
  Calls.mono (xor_any x.1 y.1 x.2 y.2 w) fun _ _ h => ⟨⟨_, h.1, rfl⟩, h.2⟩
/-- More laid on a cell. -/
def withC (c : Ce) (n : Int) (k d : Su) : Ce := (IntKind.i64.wrap (c.1 + n), xorS c.2.1 k, xorS c.2.2 d)
def waitWi1 (i : Nat) : List Nat := ([[], [0], [], [1, 2], [], [4], [], [5, 6], [], [8], [], [9, 10], [3, 7, 11], [0, 1, 2, 3, 4, 5, 6, 7, 8, 9, 10, 11, 12]] : List (List Nat)).getD i []
def slotsWi1 : List (Nat × Nat) := [(9, 0), (10, 1), (11, 2), (12, 3), (13, 4), (14, 5), (15, 6), (16, 7), (17, 8), (18, 9), (19, 10), (20, 11), (21, 12)]
theorem sbWi1 : slotsB slotsWi1 = true := by kernel_rfl
theorem chkWi1 : flwB slotsWi1 waitWi1 13 (regOf Tryd.f46.body 1) = true := by kernel_rfl
set_option maxHeartbeats 4000000 in
set_option maxRecDepth 100000 in
theorem with_b (c : Ce) (n : Int) (k : Su) (d : Su) (w w0 : World) (hB : Below w.heap.size w w0) : Calls Tryd.prog 46 #[aggC c, .int .i64 n, .agg (encU k).toArray, .agg (encU d).toArray] w0 fun e w' => (∃ v, e = .returned v ∧ v = aggC (withC c n k d)) ∧ Below w.heap.size w w' := by
  go_enter Tryd.func46, Tryd.ntmps46
  have HB := Lib.hid hB
  clear hB
  go_upto_region 0 with fail
  refine wp_region_lit ?_
  try simp only [Act.put, List.setIfInBounds_toArray, List.set_cons_zero, List.set_cons_succ]
  refine lp_step rfl (fun K hK => wp_box_row 28 (.tmp 0) rfl (aggC c) rfl (hK _ _ ?_))
  try simp only [Act.put, List.setIfInBounds_toArray, List.set_cons_zero, List.set_cons_succ]
  show wpList _ _ _ _ _ (w0.alloc (.cells (encC c).toArray 28))
  have HST : Hid (Below w0.heap.size w0 (w0.alloc (.cells (encC c).toArray 28))) := Lib.hid ((Below.refl _ _).alloc (Nat.le_refl _) _)
  have HX1 : Hid (Has (w0.alloc (.cells (encC c).toArray 28)) w0.heap.size 28 (encC c)) := Lib.hid (Has.made' _ _ _ _ rfl)
  have HGg1 : Hid (w.heap.size ≤ w0.heap.size) := Lib.hid HB.out.size
  replace HB := Lib.hid (HB.out.trans (HST.out.mono HB.out.size))
  clear HST
  generalize w0.alloc (.cells (encC c).toArray 28) = w1 at *
  generalize w0.heap.size = g1 at *
  refine lp_step rfl (fun K hK => wp_box_row 24 (.tmp 2) rfl (.agg (encU k).toArray) rfl (hK _ _ ?_))
  try simp only [Act.put, List.setIfInBounds_toArray, List.set_cons_zero, List.set_cons_succ]
  show wpList _ _ _ _ _ (w1.alloc (.cells (encU k).toArray 24))
  have HST : Hid (Below w1.heap.size w1 (w1.alloc (.cells (encU k).toArray 24))) := Lib.hid ((Below.refl _ _).alloc (Nat.le_refl _) _)
  have HX2 : Hid (Has (w1.alloc (.cells (encU k).toArray 24)) w1.heap.size 24 (encU k)) := Lib.hid (Has.made' _ _ _ _ rfl)
  replace HX1 := Lib.hid (HX1.out.keepB HST.out)
  have HGg2 : Hid (w.heap.size ≤ w1.heap.size) := Lib.hid HB.out.size
  replace HB := Lib.hid (HB.out.trans (HST.out.mono HB.out.size))
  clear HST
  generalize w1.alloc (.cells (encU k).toArray 24) = w2 at *
  generalize w1.heap.size = g2 at *
  refine lp_step rfl (fun K hK => wp_box_row 24 (.tmp 3) rfl (.agg (encU d).toArray) rfl (hK _ _ ?_))
  try simp only [Act.put, List.setIfInBounds_toArray, List.set_cons_zero, List.set_cons_succ]
  show wpList _ _ _ _ _ (w2.alloc (.cells (encU d).toArray 24))
  have HST : Hid (Below w2.heap.size w2 (w2.alloc (.cells (encU d).toArray 24))) := Lib.hid ((Below.refl _ _).alloc (Nat.le_refl _) _)
  have HX3 : Hid (Has (w2.alloc (.cells (encU d).toArray 24)) w2.heap.size 24 (encU d)) := Lib.hid (Has.made' _ _ _ _ rfl)
  replace HX1 := Lib.hid (HX1.out.keepB HST.out)
  replace HX2 := Lib.hid (HX2.out.keepB HST.out)
  have HGg3 : Hid (w.heap.size ≤ w2.heap.size) := Lib.hid HB.out.size
  replace HB := Lib.hid (HB.out.trans (HST.out.mono HB.out.size))
  clear HST
  generalize w2.alloc (.cells (encU d).toArray 24) = w3 at *
  generalize w2.heap.size = g3 at *
  refine lp_step rfl (fun K hK => wp_alloc_row 28 rfl (aggC zC) (fun w => by kernel_rfl) (hK _ _ ?_))
  try simp only [Act.put, List.setIfInBounds_toArray, List.set_cons_zero, List.set_cons_succ]
  show wpList _ _ _ _ _ (w3.alloc (.cells (encC zC).toArray 28))
  have HST : Hid (Below w3.heap.size w3 (w3.alloc (.cells (encC zC).toArray 28))) := Lib.hid ((Below.refl _ _).alloc (Nat.le_refl _) _)
  have HX4 : Hid (Has (w3.alloc (.cells (encC zC).toArray 28)) w3.heap.size 28 (encC zC)) := Lib.hid (Has.made' _ _ _ _ rfl)
  replace HX1 := Lib.hid (HX1.out.keepB HST.out)
  replace HX2 := Lib.hid (HX2.out.keepB HST.out)
  replace HX3 := Lib.hid (HX3.out.keepB HST.out)
  have HGg4 : Hid (w.heap.size ≤ w3.heap.size) := Lib.hid HB.out.size
  replace HB := Lib.hid (HB.out.trans (HST.out.mono HB.out.size))
  clear HST
  generalize w3.alloc (.cells (encC zC).toArray 28) = w4 at *
  generalize w3.heap.size = g4 at *
  refine wpList_nil ?_
  go_upto_region 1 with fail
  have HST : Hid (Below w4.heap.size w4 w4.drew) := Lib.hid (Below.refl _ _).drew
  replace HX1 := Lib.hid (HX1.out.keepB HST.out)
  replace HX2 := Lib.hid (HX2.out.keepB HST.out)
  replace HX3 := Lib.hid (HX3.out.keepB HST.out)
  replace HX4 := Lib.hid (HX4.out.keepB HST.out)
  replace HB := Lib.hid (HB.out.trans (HST.out.mono HB.out.size))
  clear HST
  refine wp_act (fun a0 ha0 => ?_)
  have zsz : a0.tmps.size = 22 := by rw [ha0]; rfl
  have z4 : a0.eval (.tmp 4) = .pointer (some ⟨g1, 0, none⟩) := by rw [ha0]; rfl
  have z1 : a0.eval (.tmp 1) = .int .i64 n := by rw [ha0]; rfl
  have z6 : a0.eval (.tmp 6) = .pointer (some ⟨g2, 0, none⟩) := by rw [ha0]; rfl
  have z7 : a0.eval (.tmp 7) = .pointer (some ⟨g3, 0, none⟩) := by rw [ha0]; rfl
  refine wp_region_flw (E := Flz) [] slotsWi1 waitWi1 [Fct.val Flz 0 (.pointer (some ⟨g1, 0, none⟩)), Fct.val Flz 1 (.int .i64 (c.1)), Fct.val Flz 2 (.int .i64 n), Fct.val Flz 3 (.int .i64 (IntKind.i64.wrap ((c.1) + n))), Fct.val Flz 4 (.pointer (some ⟨g1, 1, none⟩)), Fct.val Flz 5 (.agg (encU c.2.1).toArray), Fct.val Flz 6 (.agg (encU k).toArray), Fct.val Flz 7 (.agg (encU (xorS c.2.1 k)).toArray), Fct.val Flz 8 (.pointer (some ⟨g1, 33, none⟩)), Fct.val Flz 9 (.agg (encU c.2.2).toArray), Fct.val Flz 10 (.agg (encU d).toArray), Fct.val Flz 11 (.agg (encU (xorS c.2.2 d)).toArray), Fct.val Flz 12 (aggC ((IntKind.i64.wrap ((c.1) + n), xorS c.2.1 k, xorS c.2.2 d)))] (fun w' => Below w4.drew.heap.size w4.drew w') _ 13 1 chkWi1 (by kernel_rfl) rfl (by kernel_rfl) (by kernel_rfl) (by decide) (Below.refl _ _) ?_ ?_
  · refine lt_s (lt_s (lt_s (lt_s (lt_s (lt_s (lt_s (lt_s (lt_s (lt_s (lt_s (lt_s (lt_s (lt_0) ?_) ?_) ?_) ?_) ?_) ?_) ?_) ?_) ?_) ?_) ?_) ?_) ?_
    · intro f w1 hS hf
      generalize hA : putAll _ _ f = A
      have r4 : A.eval (.tmp 4) = .pointer (some ⟨g1, 0, none⟩) := by rw [← hA]; exact putAll_off f 4 slotsWi1 a0 (by kernel_rfl) z4
      exact flw_val rfl rfl (.pointer (some ⟨g1, 0, none⟩)) (fld0C (.tmp 4) rfl g1 r4) hS (Flz.refl _) (updF_self _ _ _)
    · intro f w1 hS hf
      generalize hA : putAll _ _ f = A
      have h9 : f 0 = .pointer (some ⟨g1, 0, none⟩) := hf 0 (by decide)
      have r9 : A.eval (.tmp 9) = .pointer (some ⟨g1, 0, none⟩) := by rw [← hA]; exact putAll_at f 9 0 slotsWi1 a0 sbWi1 (by kernel_rfl) zsz rfl h9
      exact flw_val rfl rfl (.int .i64 (c.1)) (ex_load1 2 (.tmp 9) rfl ⟨g1, 0, none⟩ r9 (fun _ => by kernel_rfl) ((HX1.out.keepB hS).cellv (encC_0 c))) hS (Flz.refl _) (updF_self _ _ _)
    · intro f w1 hS hf
      generalize hA : putAll _ _ f = A
      have r1 : A.eval (.tmp 1) = .int .i64 n := by rw [← hA]; exact putAll_off f 1 slotsWi1 a0 (by kernel_rfl) z1
      exact flw_val rfl rfl (.int .i64 n) (ex_move (.tmp 1) rfl r1) hS (Flz.refl _) (updF_self _ _ _)
    · intro f w1 hS hf
      generalize hA : putAll _ _ f = A
      have h10 : f 1 = .int .i64 (c.1) := hf 1 (by decide)
      have r10 : A.eval (.tmp 10) = .int .i64 (c.1) := by rw [← hA]; exact putAll_at f 10 1 slotsWi1 a0 sbWi1 (by kernel_rfl) zsz rfl h10
      have h11 : f 2 = .int .i64 n := hf 2 (by decide)
      have r11 : A.eval (.tmp 11) = .int .i64 n := by rw [← hA]; exact putAll_at f 11 2 slotsWi1 a0 sbWi1 (by kernel_rfl) zsz rfl h11
      exact flw_val rfl rfl (.int .i64 (IntKind.i64.wrap ((c.1) + n))) (ex_int .add _ _ (.tmp 10) (.tmp 11) rfl .i64 c.1 n r10 r11 (.int .i64 (IntKind.i64.wrap ((c.1) + n))) (fun _ => rfl)) hS (Flz.refl _) (updF_self _ _ _)
    · intro f w1 hS hf
      generalize hA : putAll _ _ f = A
      have r4 : A.eval (.tmp 4) = .pointer (some ⟨g1, 0, none⟩) := by rw [← hA]; exact putAll_off f 4 slotsWi1 a0 (by kernel_rfl) z4
      exact flw_val rfl rfl (.pointer (some ⟨g1, 1, none⟩)) (fld1C (.tmp 4) rfl g1 r4) hS (Flz.refl _) (updF_self _ _ _)
    · intro f w1 hS hf
      generalize hA : putAll _ _ f = A
      have h13 : f 4 = .pointer (some ⟨g1, 1, none⟩) := hf 4 (by decide)
      have r13 : A.eval (.tmp 13) = .pointer (some ⟨g1, 1, none⟩) := by rw [← hA]; exact putAll_at f 13 4 slotsWi1 a0 sbWi1 (by kernel_rfl) zsz rfl h13
      exact flw_val rfl rfl (.agg (encU c.2.1).toArray) (ex_loadR 24 (.tmp 13) rfl ⟨g1, 1, none⟩ r13 (fun _ => by kernel_rfl) (encU c.2.1) (by rw [encU_len]; kernel_rfl) ((HX1.out.keepB hS).part (encU c.2.1) 1 (encC_key c))) hS (Flz.refl _) (updF_self _ _ _)
    · intro f w1 hS hf
      generalize hA : putAll _ _ f = A
      have r6 : A.eval (.tmp 6) = .pointer (some ⟨g2, 0, none⟩) := by rw [← hA]; exact putAll_off f 6 slotsWi1 a0 (by kernel_rfl) z6
      exact flw_val rfl rfl (.agg (encU k).toArray) (ex_loadR 24 (.tmp 6) rfl ⟨g2, 0, none⟩ r6 (fun _ => by kernel_rfl) (encU k) (by rw [encU_len]; kernel_rfl) ((HX2.out.keepB hS).part (encU k) 0 (encU_all' k))) hS (Flz.refl _) (updF_self _ _ _)
    · intro f w1 hS hf
      generalize hA : putAll _ _ f = A
      have h14 : f 5 = .agg (encU c.2.1).toArray := hf 5 (by decide)
      have r14 : A.eval (.tmp 14) = .agg (encU c.2.1).toArray := by rw [← hA]; exact putAll_at f 14 5 slotsWi1 a0 sbWi1 (by kernel_rfl) zsz rfl h14
      have h15 : f 6 = .agg (encU k).toArray := hf 6 (by decide)
      have r15 : A.eval (.tmp 15) = .agg (encU k).toArray := by rw [← hA]; exact putAll_at f 15 6 slotsWi1 a0 sbWi1 (by kernel_rfl) zsz rfl h15
      exact flw_call rfl rfl 66 #[(.tmp 14), (.tmp 15)] _ rfl #[.agg (encU c.2.1).toArray, .agg (encU k).toArray] (by simp only [List.map_toArray, List.map_cons, List.map_nil, r14, r15]) (fun w => by kernel_rfl) (fun v _ => v = .agg (encU (xorS c.2.1 k)).toArray) (xorS_any c.2.1 k w1) (fun v w' hr hb => ⟨hS.trans (hb.mono hS.size), Flz.of hb, (updF_self _ _ _).trans hr⟩)
    · intro f w1 hS hf
      generalize hA : putAll _ _ f = A
      have r4 : A.eval (.tmp 4) = .pointer (some ⟨g1, 0, none⟩) := by rw [← hA]; exact putAll_off f 4 slotsWi1 a0 (by kernel_rfl) z4
      exact flw_val rfl rfl (.pointer (some ⟨g1, 33, none⟩)) (fld2C (.tmp 4) rfl g1 r4) hS (Flz.refl _) (updF_self _ _ _)
    · intro f w1 hS hf
      generalize hA : putAll _ _ f = A
      have h17 : f 8 = .pointer (some ⟨g1, 33, none⟩) := hf 8 (by decide)
      have r17 : A.eval (.tmp 17) = .pointer (some ⟨g1, 33, none⟩) := by rw [← hA]; exact putAll_at f 17 8 slotsWi1 a0 sbWi1 (by kernel_rfl) zsz rfl h17
      exact flw_val rfl rfl (.agg (encU c.2.2).toArray) (ex_loadR 24 (.tmp 17) rfl ⟨g1, 33, none⟩ r17 (fun _ => by kernel_rfl) (encU c.2.2) (by rw [encU_len]; kernel_rfl) ((HX1.out.keepB hS).part (encU c.2.2) 33 (encC_chk c))) hS (Flz.refl _) (updF_self _ _ _)
    · intro f w1 hS hf
      generalize hA : putAll _ _ f = A
      have r7 : A.eval (.tmp 7) = .pointer (some ⟨g3, 0, none⟩) := by rw [← hA]; exact putAll_off f 7 slotsWi1 a0 (by kernel_rfl) z7
      exact flw_val rfl rfl (.agg (encU d).toArray) (ex_loadR 24 (.tmp 7) rfl ⟨g3, 0, none⟩ r7 (fun _ => by kernel_rfl) (encU d) (by rw [encU_len]; kernel_rfl) ((HX3.out.keepB hS).part (encU d) 0 (encU_all' d))) hS (Flz.refl _) (updF_self _ _ _)
    · intro f w1 hS hf
      generalize hA : putAll _ _ f = A
      have h18 : f 9 = .agg (encU c.2.2).toArray := hf 9 (by decide)
      have r18 : A.eval (.tmp 18) = .agg (encU c.2.2).toArray := by rw [← hA]; exact putAll_at f 18 9 slotsWi1 a0 sbWi1 (by kernel_rfl) zsz rfl h18
      have h19 : f 10 = .agg (encU d).toArray := hf 10 (by decide)
      have r19 : A.eval (.tmp 19) = .agg (encU d).toArray := by rw [← hA]; exact putAll_at f 19 10 slotsWi1 a0 sbWi1 (by kernel_rfl) zsz rfl h19
      exact flw_call rfl rfl 66 #[(.tmp 18), (.tmp 19)] _ rfl #[.agg (encU c.2.2).toArray, .agg (encU d).toArray] (by simp only [List.map_toArray, List.map_cons, List.map_nil, r18, r19]) (fun w => by kernel_rfl) (fun v _ => v = .agg (encU (xorS c.2.2 d)).toArray) (xorS_any c.2.2 d w1) (fun v w' hr hb => ⟨hS.trans (hb.mono hS.size), Flz.of hb, (updF_self _ _ _).trans hr⟩)
    · intro f w1 hS hf
      generalize hA : putAll _ _ f = A
      have h12 : f 3 = .int .i64 (IntKind.i64.wrap ((c.1) + n)) := hf 3 (by decide)
      have r12 : A.eval (.tmp 12) = .int .i64 (IntKind.i64.wrap ((c.1) + n)) := by rw [← hA]; exact putAll_at f 12 3 slotsWi1 a0 sbWi1 (by kernel_rfl) zsz rfl h12
      have h16 : f 7 = .agg (encU (xorS c.2.1 k)).toArray := hf 7 (by decide)
      have r16 : A.eval (.tmp 16) = .agg (encU (xorS c.2.1 k)).toArray := by rw [← hA]; exact putAll_at f 16 7 slotsWi1 a0 sbWi1 (by kernel_rfl) zsz rfl h16
      have h20 : f 11 = .agg (encU (xorS c.2.2 d)).toArray := hf 11 (by decide)
      have r20 : A.eval (.tmp 20) = .agg (encU (xorS c.2.2 d)).toArray := by rw [← hA]; exact putAll_at f 20 11 slotsWi1 a0 sbWi1 (by kernel_rfl) zsz rfl h20
      exact flw_val rfl rfl (aggC ((IntKind.i64.wrap ((c.1) + n), xorS c.2.1 k, xorS c.2.2 d))) (ex_build 28 _ rfl (encC ((IntKind.i64.wrap ((c.1) + n), xorS c.2.1 k, xorS c.2.2 d))).toArray [(0, .int .i64 (IntKind.i64.wrap ((c.1) + n))), (1, .agg (encU (xorS c.2.1 k)).toArray), (2, .agg (encU (xorS c.2.2 d)).toArray)] (by simp only [List.map_toArray, List.map_cons, List.map_nil, r12, r16, r20]) (builtC3 (IntKind.i64.wrap ((c.1) + n)) (xorS c.2.1 k) (xorS c.2.2 d))) hS (Flz.refl _) (updF_self _ _ _)
  intro f w1 hS hf hap
  have h0 : f 0 = .pointer (some ⟨g1, 0, none⟩) := hf 0 (by decide)
  have h1 : f 1 = .int .i64 (c.1) := hf 1 (by decide)
  have h2 : f 2 = .int .i64 n := hf 2 (by decide)
  have h3 : f 3 = .int .i64 (IntKind.i64.wrap ((c.1) + n)) := hf 3 (by decide)
  have h4 : f 4 = .pointer (some ⟨g1, 1, none⟩) := hf 4 (by decide)
  have h5 : f 5 = .agg (encU c.2.1).toArray := hf 5 (by decide)
  have h6 : f 6 = .agg (encU k).toArray := hf 6 (by decide)
  have h7 : f 7 = .agg (encU (xorS c.2.1 k)).toArray := hf 7 (by decide)
  have h8 : f 8 = .pointer (some ⟨g1, 33, none⟩) := hf 8 (by decide)
  have h9 : f 9 = .agg (encU c.2.2).toArray := hf 9 (by decide)
  have h10 : f 10 = .agg (encU d).toArray := hf 10 (by decide)
  have h11 : f 11 = .agg (encU (xorS c.2.2 d)).toArray := hf 11 (by decide)
  have h12 : f 12 = aggC ((IntKind.i64.wrap ((c.1) + n), xorS c.2.1 k, xorS c.2.2 d)) := hf 12 (by decide)
  clear hf hap
  clear zsz z4 z1 z6 z7
  subst ha0
  simp only [slotsWi1, putAll, h0, h1, h2, h3, h4, h5, h6, h7, h8, h9, h10, h11, h12, Act.put, List.setIfInBounds_toArray, List.set_cons_zero, List.set_cons_succ]
  clear h0 h1 h2 h3 h4 h5 h6 h7 h8 h9 h10 h11 h12
  refine tl_store rfl (by kernel_rfl) 28 (.tmp 8) (.tmp 21) rfl g4 (encC (withC c n k d)) _ rfl rfl _ (HX4.out.keepB hS) (by rw [encC_len]; kernel_rfl) (by rw [encC_len, encC_len]) (encC_ones _) ?_
  intro w9 hp hbl hot
  refine tl_nilN ?_
  have HP := Lib.hid hp
  have HF := Lib.hid ((HB.out.trans (hS.mono HB.out.size)).trans (hbl _ HGg4.out))
  clear hp hbl hot hS
  go_wp2_with fail
  (try simp only [Exit.inBlock, Exit.then])
  refine bodyPost_ret (v := .agg (encC (withC c n k d)).toArray) ?_ rfl ⟨⟨_, rfl, rfl⟩, HF.out⟩
  exact results_cell_row rfl _ _ g4 28 _ (0, 0) _ rfl HP.out Tryd.underlying28 rfl (by rw [List.size_toArray, encC_len]; kernel_rfl)
theorem with_any (c : Ce) (n : Int) (k : Su) (d : Su) (w : World) : Calls Tryd.prog 46 #[aggC c, .int .i64 n, .agg (encU k).toArray, .agg (encU d).toArray] w fun e w' => (∃ v, e = .returned v ∧ v = aggC (withC c n k d)) ∧ Below w.heap.size w w' := with_b c n k d w w (Below.refl _ _)
def t67 : List (BitVec 8) := [67#8]
/-- A sum's check. -/
def chkS (x : Su) : Su := shaU (t67 ++ x.1)
def putC (c : Ce) (x : Su) : Ce := withC c 1 x (chkS x)
def takeC (c : Ce) (x : Su) : Ce := withC c (-1) x (chkS x)
def minusC (a b : Ce) : Ce := withC a (IntKind.i64.wrap (0 - b.1)) b.2.1 b.2.2
def waitOf1 (i : Nat) : List Nat := ([[], [], [0, 1], [2], [0, 1, 2, 3]] : List (List Nat)).getD i []
def slotsOf1 : List (Nat × Nat) := [(3, 0), (4, 1), (5, 2), (6, 3)]
theorem sbOf1 : slotsB slotsOf1 = true := by kernel_rfl
theorem chkOf1 : flwO slotsOf1 waitOf1 4 (regOf Tryd.f15.body 1) = true := by kernel_rfl
set_option maxHeartbeats 4000000 in
set_option maxRecDepth 100000 in
theorem chk_b (x : Su) (w w0 : World) (hB : Below w.heap.size w w0) (hL : Laid w) : Calls Tryd.prog 15 #[.agg (encU x).toArray] w0 fun e w' => (∃ v, e = .returned v ∧ v = .agg (encU (chkS x)).toArray) ∧ Below w.heap.size w w' := by
  go_enter Tryd.func15, Tryd.ntmps15
  have HB := Lib.hid hB
  clear hB
  have HL := Lib.hid hL
  have HSZ := Lib.hid hL.size
  clear hL
  go_upto_region 0 with fail
  refine wp_region_lit ?_
  try simp only [Act.put, List.setIfInBounds_toArray, List.set_cons_zero, List.set_cons_succ]
  refine lp_step rfl (fun K hK => wp_box_row 24 (.tmp 0) rfl (.agg (encU x).toArray) rfl (hK _ _ ?_))
  try simp only [Act.put, List.setIfInBounds_toArray, List.set_cons_zero, List.set_cons_succ]
  show wpList _ _ _ _ _ (w0.alloc (.cells (encU x).toArray 24))
  have HST : Hid (Below w0.heap.size w0 (w0.alloc (.cells (encU x).toArray 24))) := Lib.hid ((Below.refl _ _).alloc (Nat.le_refl _) _)
  have HX1 : Hid (Has (w0.alloc (.cells (encU x).toArray 24)) w0.heap.size 24 (encU x)) := Lib.hid (Has.made' _ _ _ _ rfl)
  have HGg1 : Hid (w.heap.size ≤ w0.heap.size) := Lib.hid HB.out.size
  replace HB := Lib.hid (HB.out.trans (HST.out.mono HB.out.size))
  clear HST
  generalize w0.alloc (.cells (encU x).toArray 24) = w1 at *
  generalize w0.heap.size = g1 at *
  refine lp_step rfl (fun K hK => wp_alloc_row 24 rfl (.agg (encU zS).toArray) (fun w => by kernel_rfl) (hK _ _ ?_))
  try simp only [Act.put, List.setIfInBounds_toArray, List.set_cons_zero, List.set_cons_succ]
  show wpList _ _ _ _ _ (w1.alloc (.cells (encU zS).toArray 24))
  have HST : Hid (Below w1.heap.size w1 (w1.alloc (.cells (encU zS).toArray 24))) := Lib.hid ((Below.refl _ _).alloc (Nat.le_refl _) _)
  have HX2 : Hid (Has (w1.alloc (.cells (encU zS).toArray 24)) w1.heap.size 24 (encU zS)) := Lib.hid (Has.made' _ _ _ _ rfl)
  replace HX1 := Lib.hid (HX1.out.keepB HST.out)
  have HGg2 : Hid (w.heap.size ≤ w1.heap.size) := Lib.hid HB.out.size
  replace HB := Lib.hid (HB.out.trans (HST.out.mono HB.out.size))
  clear HST
  generalize w1.alloc (.cells (encU zS).toArray 24) = w2 at *
  generalize w1.heap.size = g2 at *
  refine wpList_nil ?_
  go_upto_region 1 with fail
  refine wp_act (fun a0 ha0 => ?_)
  have zsz : a0.tmps.size = 7 := by rw [ha0]; rfl
  have z1 : a0.eval (.tmp 1) = .pointer (some ⟨g1, 0, none⟩) := by rw [ha0]; rfl
  refine wp_region_flwo (E := Flz) [] slotsOf1 waitOf1 [Fct.obj 0 (fun v w => ∃ g, v = .slice (some ⟨g, 0, none⟩) 1 1 ∧ w2.heap.size ≤ g ∧ Cl w g 5 (t67.map u8v)) (fun _ _ _ ⟨g, a, b, c⟩ he => ⟨g, a, b, c.flz he⟩), Fct.val Flz 1 (.slice (some ⟨g1, 0, none⟩) 32 32), Fct.obj 2 (fun v w => ∃ g k, v = .slice (some ⟨k, 0, none⟩) 2 2 ∧ Cl w k 26 [.slice (some ⟨g, 0, none⟩) 1 1, .slice (some ⟨g1, 0, none⟩) 32 32] ∧ Cl w g 5 (t67.map u8v)) (fun _ _ _ ⟨g, k, a, b, c⟩ he => ⟨g, k, a, b.flz he, c.flz he⟩), Fct.val Flz 3 (.agg (encU (chkS x)).toArray)] (fun w' => Below w2.heap.size w2 w') _ 4 1 chkOf1 (by kernel_rfl) rfl (by kernel_rfl) (by decide) (Below.refl _ _) ?_ ?_
  · refine lt_s (lt_s (lt_s (lt_s (lt_0) ?_) ?_) ?_) ?_
    · intro f w1 hS hf
      generalize hA : putAll _ _ f = A
      exact flw_wp rfl rfl (fun K hK => wp_lit8 1 _ rfl ((t67.map u8v).toArray) (by decide) (by decide) (by kernel_rfl) (hK _ _ (hS.alloc hS.size _) (Flz.al _ _) ⟨_, updF_self _ _ _, hS.size, Cl.made _ _ _⟩))
    · intro f w1 hS hf
      generalize hA : putAll _ _ f = A
      have r1 : A.eval (.tmp 1) = .pointer (some ⟨g1, 0, none⟩) := by rw [← hA]; exact putAll_off f 1 slotsOf1 a0 (by kernel_rfl) z1
      exact flw_val rfl rfl (.slice (some ⟨g1, 0, none⟩) 32 32) (ex_sliceU (.tmp 1) rfl g1 r1) hS (Flz.refl _) (updF_self _ _ _)
    · intro f w1 hS hf
      generalize hA : putAll _ _ f = A
      have e3 : A.eval (.tmp 3) = f 0 := by rw [← hA]; exact putAll_at f 3 0 slotsOf1 a0 sbOf1 (by kernel_rfl) zsz rfl rfl
      have h4 : f 1 = .slice (some ⟨g1, 0, none⟩) 32 32 := hf 1 (by decide)
      have r4 : A.eval (.tmp 4) = .slice (some ⟨g1, 0, none⟩) 32 32 := by rw [← hA]; exact putAll_at f 4 1 slotsOf1 a0 sbOf1 (by kernel_rfl) zsz rfl h4
      obtain ⟨g, hv, hg, hc⟩ := hf 0 (by decide)
      exact flw_wp rfl rfl (fun K hK => wp_two_bs (.tmp 3) (.tmp 4) rfl (some ⟨g, 0, none⟩) 1 1 (some ⟨g1, 0, none⟩) 32 32 (e3.trans hv) r4 (hK _ _ (hS.alloc hS.size _) (Flz.al _ _) ⟨g, _, updF_self _ _ _, Cl.made _ _ [_, _], hc.flz (Flz.al _ _)⟩))
    · intro f w1 hS hf
      generalize hA : putAll _ _ f = A
      have e5 : A.eval (.tmp 5) = f 2 := by rw [← hA]; exact putAll_at f 5 2 slotsOf1 a0 sbOf1 (by kernel_rfl) zsz rfl rfl
      obtain ⟨g, k, hv, hk, hc⟩ := hf 2 (by decide)
      have hlen : (x).1.length = 32 := (x).2
      have HOF := of_at2 (x := t67) (y := (x).1) hk (some ⟨g, 0, none⟩) 1 rfl (by decide) hc.sees (some ⟨g1, 0, none⟩) 32 (by rw [hlen]) (Nat.le_of_eq hlen) (Cl.sees (HX1.out.keepB hS).cl) (by rw [hlen]; decide) (HL.out.keep (HB.out.trans (hS.mono HB.out.size)) HSZ.out)
      exact flw_call rfl rfl 10 #[(.tmp 5)] _ rfl #[.slice (some ⟨k, 0, none⟩) 2 2] (by simp only [List.map_toArray, List.map_cons, List.map_nil, e5, hv]) (fun w => by kernel_rfl) (fun v _ => v = .agg (encU (chkS x)).toArray) HOF (fun v w' hr hb => ⟨hS.trans (hb.mono hS.size), Flz.of hb, (updF_self _ _ _).trans hr⟩)
  intro f w1 hS hf hap
  obtain ⟨gl0, h0, -⟩ := hf 0 (by decide)
  have h1 : f 1 = .slice (some ⟨g1, 0, none⟩) 32 32 := hf 1 (by decide)
  obtain ⟨_, gl2, h2, -⟩ := hf 2 (by decide)
  have h3 : f 3 = .agg (encU (chkS x)).toArray := hf 3 (by decide)
  clear hf hap
  clear zsz z1
  subst ha0
  simp only [slotsOf1, putAll, h0, h1, h2, h3, Act.put, List.setIfInBounds_toArray, List.set_cons_zero, List.set_cons_succ]
  clear h0 h1 h2 h3
  refine tl_store rfl (by kernel_rfl) 24 (.tmp 2) (.tmp 6) rfl g2 (encU (chkS x)) _ rfl rfl _ (HX2.out.keepB hS) (by rw [encU_len]; kernel_rfl) (by rw [encU_len, encU_len]) (encU_all _) ?_
  intro w9 hp hbl hot
  refine tl_nil ?_
  have HP := Lib.hid hp
  have HF := Lib.hid ((HB.out.trans (hS.mono HB.out.size)).trans (hbl _ HGg2.out))
  clear hp hbl hot hS
  go_wp2_with fail
  (try simp only [Exit.inBlock, Exit.then])
  refine bodyPost_ret (v := .agg (encU (chkS x)).toArray) ?_ rfl ⟨⟨_, rfl, rfl⟩, HF.out⟩
  exact results_cell_row rfl _ _ g2 24 _ (0, 0) _ rfl HP.out Tryd.underlying24 rfl (by rw [List.size_toArray, encU_len]; kernel_rfl)
theorem chk_any (x : Su) (w : World) (hL : Laid w) : Calls Tryd.prog 15 #[.agg (encU x).toArray] w fun e w' => (∃ v, e = .returned v ∧ v = .agg (encU (chkS x)).toArray) ∧ Below w.heap.size w w' := chk_b x w w (Below.refl _ _) hL
def waitPu1 (i : Nat) : List Nat := ([[], [], [], [2], [0, 1, 3], [0, 1, 2, 3, 4]] : List (List Nat)).getD i []
def slotsPu1 : List (Nat × Nat) := [(5, 0), (6, 1), (7, 2), (8, 3), (9, 4)]
theorem sbPu1 : slotsB slotsPu1 = true := by kernel_rfl
theorem chkPu1 : flwB slotsPu1 waitPu1 5 (regOf Tryd.f11.body 1) = true := by kernel_rfl
set_option maxHeartbeats 4000000 in
set_option maxRecDepth 100000 in
theorem put_b (c : Ce) (x : Su) (w w0 : World) (hB : Below w.heap.size w w0) (hL : Laid w) : Calls Tryd.prog 11 #[aggC c, .agg (encU x).toArray] w0 fun e w' => (∃ v, e = .returned v ∧ v = aggC (putC c x)) ∧ Below w.heap.size w w' := by
  go_enter Tryd.func11, Tryd.ntmps11
  have HB := Lib.hid hB
  clear hB
  have HL := Lib.hid hL
  have HSZ := Lib.hid hL.size
  clear hL
  go_upto_region 0 with fail
  refine wp_region_lit ?_
  try simp only [Act.put, List.setIfInBounds_toArray, List.set_cons_zero, List.set_cons_succ]
  refine lp_step rfl (fun K hK => wp_box_row 28 (.tmp 0) rfl (aggC c) rfl (hK _ _ ?_))
  try simp only [Act.put, List.setIfInBounds_toArray, List.set_cons_zero, List.set_cons_succ]
  show wpList _ _ _ _ _ (w0.alloc (.cells (encC c).toArray 28))
  have HST : Hid (Below w0.heap.size w0 (w0.alloc (.cells (encC c).toArray 28))) := Lib.hid ((Below.refl _ _).alloc (Nat.le_refl _) _)
  have HX1 : Hid (Has (w0.alloc (.cells (encC c).toArray 28)) w0.heap.size 28 (encC c)) := Lib.hid (Has.made' _ _ _ _ rfl)
  have HGg1 : Hid (w.heap.size ≤ w0.heap.size) := Lib.hid HB.out.size
  replace HB := Lib.hid (HB.out.trans (HST.out.mono HB.out.size))
  clear HST
  generalize w0.alloc (.cells (encC c).toArray 28) = w1 at *
  generalize w0.heap.size = g1 at *
  refine lp_step rfl (fun K hK => wp_box_row 24 (.tmp 1) rfl (.agg (encU x).toArray) rfl (hK _ _ ?_))
  try simp only [Act.put, List.setIfInBounds_toArray, List.set_cons_zero, List.set_cons_succ]
  show wpList _ _ _ _ _ (w1.alloc (.cells (encU x).toArray 24))
  have HST : Hid (Below w1.heap.size w1 (w1.alloc (.cells (encU x).toArray 24))) := Lib.hid ((Below.refl _ _).alloc (Nat.le_refl _) _)
  have HX2 : Hid (Has (w1.alloc (.cells (encU x).toArray 24)) w1.heap.size 24 (encU x)) := Lib.hid (Has.made' _ _ _ _ rfl)
  replace HX1 := Lib.hid (HX1.out.keepB HST.out)
  have HGg2 : Hid (w.heap.size ≤ w1.heap.size) := Lib.hid HB.out.size
  replace HB := Lib.hid (HB.out.trans (HST.out.mono HB.out.size))
  clear HST
  generalize w1.alloc (.cells (encU x).toArray 24) = w2 at *
  generalize w1.heap.size = g2 at *
  refine lp_step rfl (fun K hK => wp_alloc_row 28 rfl (aggC zC) (fun w => by kernel_rfl) (hK _ _ ?_))
  try simp only [Act.put, List.setIfInBounds_toArray, List.set_cons_zero, List.set_cons_succ]
  show wpList _ _ _ _ _ (w2.alloc (.cells (encC zC).toArray 28))
  have HST : Hid (Below w2.heap.size w2 (w2.alloc (.cells (encC zC).toArray 28))) := Lib.hid ((Below.refl _ _).alloc (Nat.le_refl _) _)
  have HX3 : Hid (Has (w2.alloc (.cells (encC zC).toArray 28)) w2.heap.size 28 (encC zC)) := Lib.hid (Has.made' _ _ _ _ rfl)
  replace HX1 := Lib.hid (HX1.out.keepB HST.out)
  replace HX2 := Lib.hid (HX2.out.keepB HST.out)
  have HGg3 : Hid (w.heap.size ≤ w2.heap.size) := Lib.hid HB.out.size
  replace HB := Lib.hid (HB.out.trans (HST.out.mono HB.out.size))
  clear HST
  generalize w2.alloc (.cells (encC zC).toArray 28) = w3 at *
  generalize w2.heap.size = g3 at *
  refine wpList_nil ?_
  go_upto_region 1 with fail
  have HST : Hid (Below w3.heap.size w3 w3.drew) := Lib.hid (Below.refl _ _).drew
  replace HX1 := Lib.hid (HX1.out.keepB HST.out)
  replace HX2 := Lib.hid (HX2.out.keepB HST.out)
  replace HX3 := Lib.hid (HX3.out.keepB HST.out)
  replace HB := Lib.hid (HB.out.trans (HST.out.mono HB.out.size))
  clear HST
  refine wp_act (fun a0 ha0 => ?_)
  have zsz : a0.tmps.size = 10 := by rw [ha0]; rfl
  have z2 : a0.eval (.tmp 2) = .pointer (some ⟨g1, 0, none⟩) := by rw [ha0]; rfl
  have z3 : a0.eval (.tmp 3) = .pointer (some ⟨g2, 0, none⟩) := by rw [ha0]; rfl
  refine wp_region_flw (E := Flz) [] slotsPu1 waitPu1 [Fct.val Flz 0 (aggC c), Fct.val Flz 1 (.agg (encU x).toArray), Fct.val Flz 2 (.agg (encU x).toArray), Fct.val Flz 3 (.agg (encU (chkS x)).toArray), Fct.val Flz 4 (aggC (withC c 1 x (chkS x)))] (fun w' => Below w3.drew.heap.size w3.drew w') _ 5 1 chkPu1 (by kernel_rfl) rfl (by kernel_rfl) (by kernel_rfl) (by decide) (Below.refl _ _) ?_ ?_
  · refine lt_s (lt_s (lt_s (lt_s (lt_s (lt_0) ?_) ?_) ?_) ?_) ?_
    · intro f w1 hS hf
      generalize hA : putAll _ _ f = A
      have r2 : A.eval (.tmp 2) = .pointer (some ⟨g1, 0, none⟩) := by rw [← hA]; exact putAll_off f 2 slotsPu1 a0 (by kernel_rfl) z2
      exact flw_val rfl rfl (aggC c) (ex_loadR 28 (.tmp 2) rfl ⟨g1, 0, none⟩ r2 (fun _ => by kernel_rfl) (encC c) (by rw [encC_len]; kernel_rfl) ((HX1.out.keepB hS).part (encC c) 0 (encC_all c))) hS (Flz.refl _) (updF_self _ _ _)
    · intro f w1 hS hf
      generalize hA : putAll _ _ f = A
      have r3 : A.eval (.tmp 3) = .pointer (some ⟨g2, 0, none⟩) := by rw [← hA]; exact putAll_off f 3 slotsPu1 a0 (by kernel_rfl) z3
      exact flw_val rfl rfl (.agg (encU x).toArray) (ex_loadR 24 (.tmp 3) rfl ⟨g2, 0, none⟩ r3 (fun _ => by kernel_rfl) (encU x) (by rw [encU_len]; kernel_rfl) ((HX2.out.keepB hS).part (encU x) 0 (encU_all' x))) hS (Flz.refl _) (updF_self _ _ _)
    · intro f w1 hS hf
      generalize hA : putAll _ _ f = A
      have r3 : A.eval (.tmp 3) = .pointer (some ⟨g2, 0, none⟩) := by rw [← hA]; exact putAll_off f 3 slotsPu1 a0 (by kernel_rfl) z3
      exact flw_val rfl rfl (.agg (encU x).toArray) (ex_loadR 24 (.tmp 3) rfl ⟨g2, 0, none⟩ r3 (fun _ => by kernel_rfl) (encU x) (by rw [encU_len]; kernel_rfl) ((HX2.out.keepB hS).part (encU x) 0 (encU_all' x))) hS (Flz.refl _) (updF_self _ _ _)
    · intro f w1 hS hf
      generalize hA : putAll _ _ f = A
      have h7 : f 2 = .agg (encU x).toArray := hf 2 (by decide)
      have r7 : A.eval (.tmp 7) = .agg (encU x).toArray := by rw [← hA]; exact putAll_at f 7 2 slotsPu1 a0 sbPu1 (by kernel_rfl) zsz rfl h7
      exact flw_call rfl rfl 15 #[(.tmp 7)] _ rfl #[.agg (encU x).toArray] (by simp only [List.map_toArray, List.map_cons, List.map_nil, r7]) (fun w => by kernel_rfl) (fun v _ => v = .agg (encU (chkS x)).toArray) (chk_any x w1 (HL.out.keep (HB.out.trans (hS.mono HB.out.size)) HSZ.out)) (fun v w' hr hb => ⟨hS.trans (hb.mono hS.size), Flz.of hb, (updF_self _ _ _).trans hr⟩)
    · intro f w1 hS hf
      generalize hA : putAll _ _ f = A
      have h5 : f 0 = aggC c := hf 0 (by decide)
      have r5 : A.eval (.tmp 5) = aggC c := by rw [← hA]; exact putAll_at f 5 0 slotsPu1 a0 sbPu1 (by kernel_rfl) zsz rfl h5
      have h6 : f 1 = .agg (encU x).toArray := hf 1 (by decide)
      have r6 : A.eval (.tmp 6) = .agg (encU x).toArray := by rw [← hA]; exact putAll_at f 6 1 slotsPu1 a0 sbPu1 (by kernel_rfl) zsz rfl h6
      have h8 : f 3 = .agg (encU (chkS x)).toArray := hf 3 (by decide)
      have r8 : A.eval (.tmp 8) = .agg (encU (chkS x)).toArray := by rw [← hA]; exact putAll_at f 8 3 slotsPu1 a0 sbPu1 (by kernel_rfl) zsz rfl h8
      exact flw_call rfl rfl 46 #[(.tmp 5), _, (.tmp 6), (.tmp 8)] _ rfl #[aggC c, .int .i64 1, .agg (encU x).toArray, .agg (encU (chkS x)).toArray] (by simp only [List.map_toArray, List.map_cons, List.map_nil, r5, r6, r8]; rfl) (fun w => by kernel_rfl) (fun v _ => v = aggC (withC c 1 x (chkS x))) (with_any c 1 x (chkS x) w1) (fun v w' hr hb => ⟨hS.trans (hb.mono hS.size), Flz.of hb, (updF_self _ _ _).trans hr⟩)
  intro f w1 hS hf hap
  have h0 : f 0 = aggC c := hf 0 (by decide)
  have h1 : f 1 = .agg (encU x).toArray := hf 1 (by decide)
  have h2 : f 2 = .agg (encU x).toArray := hf 2 (by decide)
  have h3 : f 3 = .agg (encU (chkS x)).toArray := hf 3 (by decide)
  have h4 : f 4 = aggC (withC c 1 x (chkS x)) := hf 4 (by decide)
  clear hf hap
  clear zsz z2 z3
  subst ha0
  simp only [slotsPu1, putAll, h0, h1, h2, h3, h4, Act.put, List.setIfInBounds_toArray, List.set_cons_zero, List.set_cons_succ]
  clear h0 h1 h2 h3 h4
  refine tl_store rfl (by kernel_rfl) 28 (.tmp 4) (.tmp 9) rfl g3 (encC (putC c x)) _ rfl rfl _ (HX3.out.keepB hS) (by rw [encC_len]; kernel_rfl) (by rw [encC_len, encC_len]) (encC_ones _) ?_
  intro w9 hp hbl hot
  refine tl_nilN ?_
  have HP := Lib.hid hp
  have HF := Lib.hid ((HB.out.trans (hS.mono HB.out.size)).trans (hbl _ HGg3.out))
  clear hp hbl hot hS
  go_wp2_with fail
  (try simp only [Exit.inBlock, Exit.then])
  refine bodyPost_ret (v := .agg (encC (putC c x)).toArray) ?_ rfl ⟨⟨_, rfl, rfl⟩, HF.out⟩
  exact results_cell_row rfl _ _ g3 28 _ (0, 0) _ rfl HP.out Tryd.underlying28 rfl (by rw [List.size_toArray, encC_len]; kernel_rfl)
theorem put_any (c : Ce) (x : Su) (w : World) (hL : Laid w) : Calls Tryd.prog 11 #[aggC c, .agg (encU x).toArray] w fun e w' => (∃ v, e = .returned v ∧ v = aggC (putC c x)) ∧ Below w.heap.size w w' := put_b c x w w (Below.refl _ _) hL
def waitTa1 (i : Nat) : List Nat := ([[], [], [], [2], [0, 1, 3], [0, 1, 2, 3, 4]] : List (List Nat)).getD i []
def slotsTa1 : List (Nat × Nat) := [(5, 0), (6, 1), (7, 2), (8, 3), (9, 4)]
theorem sbTa1 : slotsB slotsTa1 = true := by kernel_rfl
theorem chkTa1 : flwB slotsTa1 waitTa1 5 (regOf Tryd.f14.body 1) = true := by kernel_rfl
set_option maxHeartbeats 4000000 in
set_option maxRecDepth 100000 in
theorem take_b (c : Ce) (x : Su) (w w0 : World) (hB : Below w.heap.size w w0) (hL : Laid w) : Calls Tryd.prog 14 #[aggC c, .agg (encU x).toArray] w0 fun e w' => (∃ v, e = .returned v ∧ v = aggC (takeC c x)) ∧ Below w.heap.size w w' := by
  go_enter Tryd.func14, Tryd.ntmps14
  have HB := Lib.hid hB
  clear hB
  have HL := Lib.hid hL
  have HSZ := Lib.hid hL.size
  clear hL
  go_upto_region 0 with fail
  refine wp_region_lit ?_
  try simp only [Act.put, List.setIfInBounds_toArray, List.set_cons_zero, List.set_cons_succ]
  refine lp_step rfl (fun K hK => wp_box_row 28 (.tmp 0) rfl (aggC c) rfl (hK _ _ ?_))
  try simp only [Act.put, List.setIfInBounds_toArray, List.set_cons_zero, List.set_cons_succ]
  show wpList _ _ _ _ _ (w0.alloc (.cells (encC c).toArray 28))
  have HST : Hid (Below w0.heap.size w0 (w0.alloc (.cells (encC c).toArray 28))) := Lib.hid ((Below.refl _ _).alloc (Nat.le_refl _) _)
  have HX1 : Hid (Has (w0.alloc (.cells (encC c).toArray 28)) w0.heap.size 28 (encC c)) := Lib.hid (Has.made' _ _ _ _ rfl)
  have HGg1 : Hid (w.heap.size ≤ w0.heap.size) := Lib.hid HB.out.size
  replace HB := Lib.hid (HB.out.trans (HST.out.mono HB.out.size))
  clear HST
  generalize w0.alloc (.cells (encC c).toArray 28) = w1 at *
  generalize w0.heap.size = g1 at *
  refine lp_step rfl (fun K hK => wp_box_row 24 (.tmp 1) rfl (.agg (encU x).toArray) rfl (hK _ _ ?_))
  try simp only [Act.put, List.setIfInBounds_toArray, List.set_cons_zero, List.set_cons_succ]
  show wpList _ _ _ _ _ (w1.alloc (.cells (encU x).toArray 24))
  have HST : Hid (Below w1.heap.size w1 (w1.alloc (.cells (encU x).toArray 24))) := Lib.hid ((Below.refl _ _).alloc (Nat.le_refl _) _)
  have HX2 : Hid (Has (w1.alloc (.cells (encU x).toArray 24)) w1.heap.size 24 (encU x)) := Lib.hid (Has.made' _ _ _ _ rfl)
  replace HX1 := Lib.hid (HX1.out.keepB HST.out)
  have HGg2 : Hid (w.heap.size ≤ w1.heap.size) := Lib.hid HB.out.size
  replace HB := Lib.hid (HB.out.trans (HST.out.mono HB.out.size))
  clear HST
  generalize w1.alloc (.cells (encU x).toArray 24) = w2 at *
  generalize w1.heap.size = g2 at *
  refine lp_step rfl (fun K hK => wp_alloc_row 28 rfl (aggC zC) (fun w => by kernel_rfl) (hK _ _ ?_))
  try simp only [Act.put, List.setIfInBounds_toArray, List.set_cons_zero, List.set_cons_succ]
  show wpList _ _ _ _ _ (w2.alloc (.cells (encC zC).toArray 28))
  have HST : Hid (Below w2.heap.size w2 (w2.alloc (.cells (encC zC).toArray 28))) := Lib.hid ((Below.refl _ _).alloc (Nat.le_refl _) _)
  have HX3 : Hid (Has (w2.alloc (.cells (encC zC).toArray 28)) w2.heap.size 28 (encC zC)) := Lib.hid (Has.made' _ _ _ _ rfl)
  replace HX1 := Lib.hid (HX1.out.keepB HST.out)
  replace HX2 := Lib.hid (HX2.out.keepB HST.out)
  have HGg3 : Hid (w.heap.size ≤ w2.heap.size) := Lib.hid HB.out.size
  replace HB := Lib.hid (HB.out.trans (HST.out.mono HB.out.size))
  clear HST
  generalize w2.alloc (.cells (encC zC).toArray 28) = w3 at *
  generalize w2.heap.size = g3 at *
  refine wpList_nil ?_
  go_upto_region 1 with fail
  have HST : Hid (Below w3.heap.size w3 w3.drew) := Lib.hid (Below.refl _ _).drew
  replace HX1 := Lib.hid (HX1.out.keepB HST.out)
  replace HX2 := Lib.hid (HX2.out.keepB HST.out)
  replace HX3 := Lib.hid (HX3.out.keepB HST.out)
  replace HB := Lib.hid (HB.out.trans (HST.out.mono HB.out.size))
  clear HST
  refine wp_act (fun a0 ha0 => ?_)
  have zsz : a0.tmps.size = 10 := by rw [ha0]; rfl
  have z2 : a0.eval (.tmp 2) = .pointer (some ⟨g1, 0, none⟩) := by rw [ha0]; rfl
  have z3 : a0.eval (.tmp 3) = .pointer (some ⟨g2, 0, none⟩) := by rw [ha0]; rfl
  refine wp_region_flw (E := Flz) [] slotsTa1 waitTa1 [Fct.val Flz 0 (aggC c), Fct.val Flz 1 (.agg (encU x).toArray), Fct.val Flz 2 (.agg (encU x).toArray), Fct.val Flz 3 (.agg (encU (chkS x)).toArray), Fct.val Flz 4 (aggC (withC c ((-1)) x (chkS x)))] (fun w' => Below w3.drew.heap.size w3.drew w') _ 5 1 chkTa1 (by kernel_rfl) rfl (by kernel_rfl) (by kernel_rfl) (by decide) (Below.refl _ _) ?_ ?_
  · refine lt_s (lt_s (lt_s (lt_s (lt_s (lt_0) ?_) ?_) ?_) ?_) ?_
    · intro f w1 hS hf
      generalize hA : putAll _ _ f = A
      have r2 : A.eval (.tmp 2) = .pointer (some ⟨g1, 0, none⟩) := by rw [← hA]; exact putAll_off f 2 slotsTa1 a0 (by kernel_rfl) z2
      exact flw_val rfl rfl (aggC c) (ex_loadR 28 (.tmp 2) rfl ⟨g1, 0, none⟩ r2 (fun _ => by kernel_rfl) (encC c) (by rw [encC_len]; kernel_rfl) ((HX1.out.keepB hS).part (encC c) 0 (encC_all c))) hS (Flz.refl _) (updF_self _ _ _)
    · intro f w1 hS hf
      generalize hA : putAll _ _ f = A
      have r3 : A.eval (.tmp 3) = .pointer (some ⟨g2, 0, none⟩) := by rw [← hA]; exact putAll_off f 3 slotsTa1 a0 (by kernel_rfl) z3
      exact flw_val rfl rfl (.agg (encU x).toArray) (ex_loadR 24 (.tmp 3) rfl ⟨g2, 0, none⟩ r3 (fun _ => by kernel_rfl) (encU x) (by rw [encU_len]; kernel_rfl) ((HX2.out.keepB hS).part (encU x) 0 (encU_all' x))) hS (Flz.refl _) (updF_self _ _ _)
    · intro f w1 hS hf
      generalize hA : putAll _ _ f = A
      have r3 : A.eval (.tmp 3) = .pointer (some ⟨g2, 0, none⟩) := by rw [← hA]; exact putAll_off f 3 slotsTa1 a0 (by kernel_rfl) z3
      exact flw_val rfl rfl (.agg (encU x).toArray) (ex_loadR 24 (.tmp 3) rfl ⟨g2, 0, none⟩ r3 (fun _ => by kernel_rfl) (encU x) (by rw [encU_len]; kernel_rfl) ((HX2.out.keepB hS).part (encU x) 0 (encU_all' x))) hS (Flz.refl _) (updF_self _ _ _)
    · intro f w1 hS hf
      generalize hA : putAll _ _ f = A
      have h7 : f 2 = .agg (encU x).toArray := hf 2 (by decide)
      have r7 : A.eval (.tmp 7) = .agg (encU x).toArray := by rw [← hA]; exact putAll_at f 7 2 slotsTa1 a0 sbTa1 (by kernel_rfl) zsz rfl h7
      exact flw_call rfl rfl 15 #[(.tmp 7)] _ rfl #[.agg (encU x).toArray] (by simp only [List.map_toArray, List.map_cons, List.map_nil, r7]) (fun w => by kernel_rfl) (fun v _ => v = .agg (encU (chkS x)).toArray) (chk_any x w1 (HL.out.keep (HB.out.trans (hS.mono HB.out.size)) HSZ.out)) (fun v w' hr hb => ⟨hS.trans (hb.mono hS.size), Flz.of hb, (updF_self _ _ _).trans hr⟩)
    · intro f w1 hS hf
      generalize hA : putAll _ _ f = A
      have h5 : f 0 = aggC c := hf 0 (by decide)
      have r5 : A.eval (.tmp 5) = aggC c := by rw [← hA]; exact putAll_at f 5 0 slotsTa1 a0 sbTa1 (by kernel_rfl) zsz rfl h5
      have h6 : f 1 = .agg (encU x).toArray := hf 1 (by decide)
      have r6 : A.eval (.tmp 6) = .agg (encU x).toArray := by rw [← hA]; exact putAll_at f 6 1 slotsTa1 a0 sbTa1 (by kernel_rfl) zsz rfl h6
      have h8 : f 3 = .agg (encU (chkS x)).toArray := hf 3 (by decide)
      have r8 : A.eval (.tmp 8) = .agg (encU (chkS x)).toArray := by rw [← hA]; exact putAll_at f 8 3 slotsTa1 a0 sbTa1 (by kernel_rfl) zsz rfl h8
      exact flw_call rfl rfl 46 #[(.tmp 5), _, (.tmp 6), (.tmp 8)] _ rfl #[aggC c, .int .i64 ((-1)), .agg (encU x).toArray, .agg (encU (chkS x)).toArray] (by simp only [List.map_toArray, List.map_cons, List.map_nil, r5, r6, r8]; rfl) (fun w => by kernel_rfl) (fun v _ => v = aggC (withC c ((-1)) x (chkS x))) (with_any c ((-1)) x (chkS x) w1) (fun v w' hr hb => ⟨hS.trans (hb.mono hS.size), Flz.of hb, (updF_self _ _ _).trans hr⟩)
  intro f w1 hS hf hap
  have h0 : f 0 = aggC c := hf 0 (by decide)
  have h1 : f 1 = .agg (encU x).toArray := hf 1 (by decide)
  have h2 : f 2 = .agg (encU x).toArray := hf 2 (by decide)
  have h3 : f 3 = .agg (encU (chkS x)).toArray := hf 3 (by decide)
  have h4 : f 4 = aggC (withC c ((-1)) x (chkS x)) := hf 4 (by decide)
  clear hf hap
  clear zsz z2 z3
  subst ha0
  simp only [slotsTa1, putAll, h0, h1, h2, h3, h4, Act.put, List.setIfInBounds_toArray, List.set_cons_zero, List.set_cons_succ]
  clear h0 h1 h2 h3 h4
  refine tl_store rfl (by kernel_rfl) 28 (.tmp 4) (.tmp 9) rfl g3 (encC (takeC c x)) _ rfl rfl _ (HX3.out.keepB hS) (by rw [encC_len]; kernel_rfl) (by rw [encC_len, encC_len]) (encC_ones _) ?_
  intro w9 hp hbl hot
  refine tl_nilN ?_
  have HP := Lib.hid hp
  have HF := Lib.hid ((HB.out.trans (hS.mono HB.out.size)).trans (hbl _ HGg3.out))
  clear hp hbl hot hS
  go_wp2_with fail
  (try simp only [Exit.inBlock, Exit.then])
  refine bodyPost_ret (v := .agg (encC (takeC c x)).toArray) ?_ rfl ⟨⟨_, rfl, rfl⟩, HF.out⟩
  exact results_cell_row rfl _ _ g3 28 _ (0, 0) _ rfl HP.out Tryd.underlying28 rfl (by rw [List.size_toArray, encC_len]; kernel_rfl)
theorem take_any (c : Ce) (x : Su) (w : World) (hL : Laid w) : Calls Tryd.prog 14 #[aggC c, .agg (encU x).toArray] w fun e w' => (∃ v, e = .returned v ∧ v = aggC (takeC c x)) ∧ Below w.heap.size w w' := take_b c x w w (Below.refl _ _) hL
def waitMi1 (i : Nat) : List Nat := ([[], [], [1], [2], [], [4], [], [6], [0, 3, 5, 7], [0, 1, 2, 3, 4, 5, 6, 7, 8]] : List (List Nat)).getD i []
def slotsMi1 : List (Nat × Nat) := [(5, 0), (6, 1), (7, 2), (8, 3), (9, 4), (10, 5), (11, 6), (12, 7), (13, 8)]
theorem sbMi1 : slotsB slotsMi1 = true := by kernel_rfl
theorem chkMi1 : flwO slotsMi1 waitMi1 9 (regOf Tryd.f13.body 1) = true := by kernel_rfl
set_option maxHeartbeats 4000000 in
set_option maxRecDepth 100000 in
theorem minus_b (a : Ce) (b : Ce) (w w0 : World) (hB : Below w.heap.size w w0) : Calls Tryd.prog 13 #[aggC a, aggC b] w0 fun e w' => (∃ v, e = .returned v ∧ v = aggC (minusC a b)) ∧ Below w.heap.size w w' := by
  go_enter Tryd.func13, Tryd.ntmps13
  have HB := Lib.hid hB
  clear hB
  go_upto_region 0 with fail
  refine wp_region_lit ?_
  try simp only [Act.put, List.setIfInBounds_toArray, List.set_cons_zero, List.set_cons_succ]
  refine lp_step rfl (fun K hK => wp_box_row 28 (.tmp 0) rfl (aggC a) rfl (hK _ _ ?_))
  try simp only [Act.put, List.setIfInBounds_toArray, List.set_cons_zero, List.set_cons_succ]
  show wpList _ _ _ _ _ (w0.alloc (.cells (encC a).toArray 28))
  have HST : Hid (Below w0.heap.size w0 (w0.alloc (.cells (encC a).toArray 28))) := Lib.hid ((Below.refl _ _).alloc (Nat.le_refl _) _)
  have HX1 : Hid (Has (w0.alloc (.cells (encC a).toArray 28)) w0.heap.size 28 (encC a)) := Lib.hid (Has.made' _ _ _ _ rfl)
  have HGg1 : Hid (w.heap.size ≤ w0.heap.size) := Lib.hid HB.out.size
  replace HB := Lib.hid (HB.out.trans (HST.out.mono HB.out.size))
  clear HST
  generalize w0.alloc (.cells (encC a).toArray 28) = w1 at *
  generalize w0.heap.size = g1 at *
  refine lp_step rfl (fun K hK => wp_box_row 28 (.tmp 1) rfl (aggC b) rfl (hK _ _ ?_))
  try simp only [Act.put, List.setIfInBounds_toArray, List.set_cons_zero, List.set_cons_succ]
  show wpList _ _ _ _ _ (w1.alloc (.cells (encC b).toArray 28))
  have HST : Hid (Below w1.heap.size w1 (w1.alloc (.cells (encC b).toArray 28))) := Lib.hid ((Below.refl _ _).alloc (Nat.le_refl _) _)
  have HX2 : Hid (Has (w1.alloc (.cells (encC b).toArray 28)) w1.heap.size 28 (encC b)) := Lib.hid (Has.made' _ _ _ _ rfl)
  replace HX1 := Lib.hid (HX1.out.keepB HST.out)
  have HGg2 : Hid (w.heap.size ≤ w1.heap.size) := Lib.hid HB.out.size
  replace HB := Lib.hid (HB.out.trans (HST.out.mono HB.out.size))
  clear HST
  generalize w1.alloc (.cells (encC b).toArray 28) = w2 at *
  generalize w1.heap.size = g2 at *
  refine lp_step rfl (fun K hK => wp_alloc_row 28 rfl (aggC zC) (fun w => by kernel_rfl) (hK _ _ ?_))
  try simp only [Act.put, List.setIfInBounds_toArray, List.set_cons_zero, List.set_cons_succ]
  show wpList _ _ _ _ _ (w2.alloc (.cells (encC zC).toArray 28))
  have HST : Hid (Below w2.heap.size w2 (w2.alloc (.cells (encC zC).toArray 28))) := Lib.hid ((Below.refl _ _).alloc (Nat.le_refl _) _)
  have HX3 : Hid (Has (w2.alloc (.cells (encC zC).toArray 28)) w2.heap.size 28 (encC zC)) := Lib.hid (Has.made' _ _ _ _ rfl)
  replace HX1 := Lib.hid (HX1.out.keepB HST.out)
  replace HX2 := Lib.hid (HX2.out.keepB HST.out)
  have HGg3 : Hid (w.heap.size ≤ w2.heap.size) := Lib.hid HB.out.size
  replace HB := Lib.hid (HB.out.trans (HST.out.mono HB.out.size))
  clear HST
  generalize w2.alloc (.cells (encC zC).toArray 28) = w3 at *
  generalize w2.heap.size = g3 at *
  refine wpList_nil ?_
  go_upto_region 1 with fail
  refine wp_act (fun a0 ha0 => ?_)
  have zsz : a0.tmps.size = 14 := by rw [ha0]; rfl
  have z2 : a0.eval (.tmp 2) = .pointer (some ⟨g1, 0, none⟩) := by rw [ha0]; rfl
  have z3 : a0.eval (.tmp 3) = .pointer (some ⟨g2, 0, none⟩) := by rw [ha0]; rfl
  refine wp_region_flwo (E := Flz) [] slotsMi1 waitMi1 [Fct.val Flz 0 (aggC a), Fct.val Flz 1 (.pointer (some ⟨g2, 0, none⟩)), Fct.val Flz 2 (.int .i64 (b.1)), Fct.val Flz 3 (.int .i64 (IntKind.i64.wrap (0 - b.1))), Fct.val Flz 4 (.pointer (some ⟨g2, 1, none⟩)), Fct.val Flz 5 (.agg (encU b.2.1).toArray), Fct.val Flz 6 (.pointer (some ⟨g2, 33, none⟩)), Fct.val Flz 7 (.agg (encU b.2.2).toArray), Fct.val Flz 8 (aggC (withC a (IntKind.i64.wrap (0 - b.1)) b.2.1 b.2.2))] (fun w' => Below w3.heap.size w3 w') _ 9 1 chkMi1 (by kernel_rfl) rfl (by kernel_rfl) (by decide) (Below.refl _ _) ?_ ?_
  · refine lt_s (lt_s (lt_s (lt_s (lt_s (lt_s (lt_s (lt_s (lt_s (lt_0) ?_) ?_) ?_) ?_) ?_) ?_) ?_) ?_) ?_
    · intro f w1 hS hf
      generalize hA : putAll _ _ f = A
      have r2 : A.eval (.tmp 2) = .pointer (some ⟨g1, 0, none⟩) := by rw [← hA]; exact putAll_off f 2 slotsMi1 a0 (by kernel_rfl) z2
      exact flw_val rfl rfl (aggC a) (ex_loadR 28 (.tmp 2) rfl ⟨g1, 0, none⟩ r2 (fun _ => by kernel_rfl) (encC a) (by rw [encC_len]; kernel_rfl) ((HX1.out.keepB hS).part (encC a) 0 (encC_all a))) hS (Flz.refl _) (updF_self _ _ _)
    · intro f w1 hS hf
      generalize hA : putAll _ _ f = A
      have r3 : A.eval (.tmp 3) = .pointer (some ⟨g2, 0, none⟩) := by rw [← hA]; exact putAll_off f 3 slotsMi1 a0 (by kernel_rfl) z3
      exact flw_val rfl rfl (.pointer (some ⟨g2, 0, none⟩)) (fld0C (.tmp 3) rfl g2 r3) hS (Flz.refl _) (updF_self _ _ _)
    · intro f w1 hS hf
      generalize hA : putAll _ _ f = A
      have h6 : f 1 = .pointer (some ⟨g2, 0, none⟩) := hf 1 (by decide)
      have r6 : A.eval (.tmp 6) = .pointer (some ⟨g2, 0, none⟩) := by rw [← hA]; exact putAll_at f 6 1 slotsMi1 a0 sbMi1 (by kernel_rfl) zsz rfl h6
      exact flw_val rfl rfl (.int .i64 (b.1)) (ex_load1 2 (.tmp 6) rfl ⟨g2, 0, none⟩ r6 (fun _ => by kernel_rfl) ((HX2.out.keepB hS).cellv (encC_0 b))) hS (Flz.refl _) (updF_self _ _ _)
    · intro f w1 hS hf
      generalize hA : putAll _ _ f = A
      have h7 : f 2 = .int .i64 (b.1) := hf 2 (by decide)
      have r7 : A.eval (.tmp 7) = .int .i64 (b.1) := by rw [← hA]; exact putAll_at f 7 2 slotsMi1 a0 sbMi1 (by kernel_rfl) zsz rfl h7
      exact flw_val rfl rfl (.int .i64 (IntKind.i64.wrap (0 - b.1))) (ex_neg _ (.tmp 7) rfl _ _ r7) hS (Flz.refl _) (updF_self _ _ _)
    · intro f w1 hS hf
      generalize hA : putAll _ _ f = A
      have r3 : A.eval (.tmp 3) = .pointer (some ⟨g2, 0, none⟩) := by rw [← hA]; exact putAll_off f 3 slotsMi1 a0 (by kernel_rfl) z3
      exact flw_val rfl rfl (.pointer (some ⟨g2, 1, none⟩)) (fld1C (.tmp 3) rfl g2 r3) hS (Flz.refl _) (updF_self _ _ _)
    · intro f w1 hS hf
      generalize hA : putAll _ _ f = A
      have h9 : f 4 = .pointer (some ⟨g2, 1, none⟩) := hf 4 (by decide)
      have r9 : A.eval (.tmp 9) = .pointer (some ⟨g2, 1, none⟩) := by rw [← hA]; exact putAll_at f 9 4 slotsMi1 a0 sbMi1 (by kernel_rfl) zsz rfl h9
      exact flw_val rfl rfl (.agg (encU b.2.1).toArray) (ex_loadR 24 (.tmp 9) rfl ⟨g2, 1, none⟩ r9 (fun _ => by kernel_rfl) (encU b.2.1) (by rw [encU_len]; kernel_rfl) ((HX2.out.keepB hS).part (encU b.2.1) 1 (encC_key b))) hS (Flz.refl _) (updF_self _ _ _)
    · intro f w1 hS hf
      generalize hA : putAll _ _ f = A
      have r3 : A.eval (.tmp 3) = .pointer (some ⟨g2, 0, none⟩) := by rw [← hA]; exact putAll_off f 3 slotsMi1 a0 (by kernel_rfl) z3
      exact flw_val rfl rfl (.pointer (some ⟨g2, 33, none⟩)) (fld2C (.tmp 3) rfl g2 r3) hS (Flz.refl _) (updF_self _ _ _)
    · intro f w1 hS hf
      generalize hA : putAll _ _ f = A
      have h11 : f 6 = .pointer (some ⟨g2, 33, none⟩) := hf 6 (by decide)
      have r11 : A.eval (.tmp 11) = .pointer (some ⟨g2, 33, none⟩) := by rw [← hA]; exact putAll_at f 11 6 slotsMi1 a0 sbMi1 (by kernel_rfl) zsz rfl h11
      exact flw_val rfl rfl (.agg (encU b.2.2).toArray) (ex_loadR 24 (.tmp 11) rfl ⟨g2, 33, none⟩ r11 (fun _ => by kernel_rfl) (encU b.2.2) (by rw [encU_len]; kernel_rfl) ((HX2.out.keepB hS).part (encU b.2.2) 33 (encC_chk b))) hS (Flz.refl _) (updF_self _ _ _)
    · intro f w1 hS hf
      generalize hA : putAll _ _ f = A
      have h5 : f 0 = aggC a := hf 0 (by decide)
      have r5 : A.eval (.tmp 5) = aggC a := by rw [← hA]; exact putAll_at f 5 0 slotsMi1 a0 sbMi1 (by kernel_rfl) zsz rfl h5
      have h8 : f 3 = .int .i64 (IntKind.i64.wrap (0 - b.1)) := hf 3 (by decide)
      have r8 : A.eval (.tmp 8) = .int .i64 (IntKind.i64.wrap (0 - b.1)) := by rw [← hA]; exact putAll_at f 8 3 slotsMi1 a0 sbMi1 (by kernel_rfl) zsz rfl h8
      have h10 : f 5 = .agg (encU b.2.1).toArray := hf 5 (by decide)
      have r10 : A.eval (.tmp 10) = .agg (encU b.2.1).toArray := by rw [← hA]; exact putAll_at f 10 5 slotsMi1 a0 sbMi1 (by kernel_rfl) zsz rfl h10
      have h12 : f 7 = .agg (encU b.2.2).toArray := hf 7 (by decide)
      have r12 : A.eval (.tmp 12) = .agg (encU b.2.2).toArray := by rw [← hA]; exact putAll_at f 12 7 slotsMi1 a0 sbMi1 (by kernel_rfl) zsz rfl h12
      exact flw_call rfl rfl 46 #[(.tmp 5), (.tmp 8), (.tmp 10), (.tmp 12)] _ rfl #[aggC a, .int .i64 (IntKind.i64.wrap (0 - b.1)), .agg (encU b.2.1).toArray, .agg (encU b.2.2).toArray] (by simp only [List.map_toArray, List.map_cons, List.map_nil, r5, r8, r10, r12]) (fun w => by kernel_rfl) (fun v _ => v = aggC (withC a (IntKind.i64.wrap (0 - b.1)) b.2.1 b.2.2)) (with_any a (IntKind.i64.wrap (0 - b.1)) b.2.1 b.2.2 w1) (fun v w' hr hb => ⟨hS.trans (hb.mono hS.size), Flz.of hb, (updF_self _ _ _).trans hr⟩)
  intro f w1 hS hf hap
  have h0 : f 0 = aggC a := hf 0 (by decide)
  have h1 : f 1 = .pointer (some ⟨g2, 0, none⟩) := hf 1 (by decide)
  have h2 : f 2 = .int .i64 (b.1) := hf 2 (by decide)
  have h3 : f 3 = .int .i64 (IntKind.i64.wrap (0 - b.1)) := hf 3 (by decide)
  have h4 : f 4 = .pointer (some ⟨g2, 1, none⟩) := hf 4 (by decide)
  have h5 : f 5 = .agg (encU b.2.1).toArray := hf 5 (by decide)
  have h6 : f 6 = .pointer (some ⟨g2, 33, none⟩) := hf 6 (by decide)
  have h7 : f 7 = .agg (encU b.2.2).toArray := hf 7 (by decide)
  have h8 : f 8 = aggC (withC a (IntKind.i64.wrap (0 - b.1)) b.2.1 b.2.2) := hf 8 (by decide)
  clear hf hap
  clear zsz z2 z3
  subst ha0
  simp only [slotsMi1, putAll, h0, h1, h2, h3, h4, h5, h6, h7, h8, Act.put, List.setIfInBounds_toArray, List.set_cons_zero, List.set_cons_succ]
  clear h0 h1 h2 h3 h4 h5 h6 h7 h8
  refine tl_store rfl (by kernel_rfl) 28 (.tmp 4) (.tmp 13) rfl g3 (encC (minusC a b)) _ rfl rfl _ (HX3.out.keepB hS) (by rw [encC_len]; kernel_rfl) (by rw [encC_len, encC_len]) (encC_ones _) ?_
  intro w9 hp hbl hot
  refine tl_nil ?_
  have HP := Lib.hid hp
  have HF := Lib.hid ((HB.out.trans (hS.mono HB.out.size)).trans (hbl _ HGg3.out))
  clear hp hbl hot hS
  go_wp2_with fail
  (try simp only [Exit.inBlock, Exit.then])
  refine bodyPost_ret (v := .agg (encC (minusC a b)).toArray) ?_ rfl ⟨⟨_, rfl, rfl⟩, HF.out⟩
  exact results_cell_row rfl _ _ g3 28 _ (0, 0) _ rfl HP.out Tryd.underlying28 rfl (by rw [List.size_toArray, encC_len]; kernel_rfl)
theorem minus_any (a : Ce) (b : Ce) (w : World) : Calls Tryd.prog 13 #[aggC a, aggC b] w fun e w' => (∃ v, e = .returned v ∧ v = aggC (minusC a b)) ∧ Below w.heap.size w w' := minus_b a b w w (Below.refl _ _)
end Go.Proofs.YtihkbblapfjobaaDoor
