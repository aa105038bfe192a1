/- Contracts: the document's own Check, PutCell, MinusCell, Pure; the law's cellOf. No condition. -/
import Derived.Test.YtihkbblapfjobaaDoorRps
import Derived.Test.YtihkbblapfjobaaDoorRce
import Derived.Test.YtihkbblapfjobaaDoorCa
namespace Go.Proofs.YtihkbblapfjobaaDoor
open Go.RowKit
theorem lp_call {ops : Array Oper} {rest : List Oper} {o : Oper} {a : Act} {w : World} {Q : Exit → Act → World → Prop} (hw : Region.wanted o (yielded ops a.tmps) = true) (g : FuncId) (xs : Array Operand) (ts : Array TypeId) (hop : o.op = .call { callee := .value (.func g), args := xs, argTypes := ts })
    (us : Array Value) (hx : xs.map a.eval = us) (hcf : ∀ w, (callFunc g us).run Tryd.prog w = .ok (.enter g us) w) {R : Ending → World → Prop} (hc : Calls Tryd.prog g us w R) (h : ∀ e w', R e w' → ∃ v, e = .returned v ∧ wpList Tryd.prog ops Q rest (a.put o.dst v) w') : wpList Tryd.prog ops Q (o :: rest) a w :=
  lp_step hw fun K hK => by
    unfold Oper.wp
    have he : (execOp a.eval o).run Tryd.prog w = .ok (.enter g us) w := by
      unfold execOp
      have hf : a.eval (.func g) = .func (.func g) #[] #[] := rfl
      simp [hop, resolve, invoke, hx, hf, Deferred.ofValue, hcf]
    rw [he, Oper.upon_enter]
    refine Calls.mono hc ?_
    intro e w' hr
    obtain ⟨v, rfl, hk⟩ := h e w' hr
    exact hK _ _ hk
theorem OwB.made (w : World) (x : List (BitVec 8)) (n : Nat) (hn : x.length = n) (hm : n ≤ 1000) : OwB (w.alloc (.cells (x.map u8v).toArray 5)) w.heap.size (.slice (some ⟨w.heap.size, 0, none⟩) n n) x := by
  subst hn
  exact ⟨by simp, .inr ⟨w.heap.size, x.length, (x.map u8v).toArray, rfl, Nat.le_refl _, heap_alloc_new _ _, Nat.le_refl _, by unfold maxLen; omega, by simp, by rw [Nat.mul_one]; exact List.take_of_length_le (by simp)⟩⟩
theorem rof_ow {w : World} {b : Nat} {v : Value} {x : List (BitVec 8)} (h : OwB w b v x) (hx : x.length ≤ 1000000) : Calls Tryd.prog 47 #[v] w fun e w' => e = .returned (.agg (encU (shaU x)).toArray) ∧ Below w.heap.size w w' := by
  obtain ⟨q, c, rfl, _, hq, hs⟩ := Bs.own h
  exact rof_any x q c w hs hq (by omega)
theorem xorR_any (x y : Su) (w : World) : Calls Tryd.prog 49 #[.agg (encU x).toArray, .agg (encU y).toArray] w fun e w' => (∃ v, e = .returned v ∧ v = .agg (encU (xorS x y)).toArray) ∧ Below w.heap.size w w' :=
  Calls.mono (rxor_any x.1 y.1 x.2 y.2 w) fun _ _ h => ⟨⟨_, h.1, rfl⟩, h.2⟩
set_option maxHeartbeats 4000000 in
set_option maxRecDepth 100000 in
theorem rchk_b (x : Su) (w w0 : World) (hB : Below w.heap.size w w0) : Calls Tryd.prog 19 #[.agg (encU x).toArray] w0 fun e w' => (∃ v, e = .returned v ∧ v = .agg (encU (chkS x)).toArray) ∧ Below w.heap.size w w' := by
  go_enter Tryd.func19, Tryd.ntmps19
  have HB := Lib.hid hB
  clear hB
  go_upto_region 0 with fail
  refine wp_region_lit ?_
  try simp only [Act.put, List.setIfInBounds_toArray, List.set_cons_zero, List.set_cons_succ]
  refine lp_step rfl (fun K hK => wp_box_row 35 (.tmp 0) rfl (.agg (encU x).toArray) rfl (hK _ _ ?_))
  try simp only [Act.put, List.setIfInBounds_toArray, List.set_cons_zero, List.set_cons_succ]
  show wpList _ _ _ _ _ (w0.alloc (.cells (encU x).toArray 35))
  have HST : Hid (Below w0.heap.size w0 (w0.alloc (.cells (encU x).toArray 35))) := Lib.hid ((Below.refl _ _).alloc (Nat.le_refl _) _)
  have HX1 : Hid (Has (w0.alloc (.cells (encU x).toArray 35)) w0.heap.size 35 (encU x)) := Lib.hid (Has.made' _ _ _ _ rfl)
  have HGg1 : Hid (w.heap.size ≤ w0.heap.size) := Lib.hid HB.out.size
  replace HB := Lib.hid (HB.out.trans (HST.out.mono HB.out.size))
  clear HST
  generalize w0.alloc (.cells (encU x).toArray 35) = w1 at *
  generalize w0.heap.size = g1 at *
  refine lp_step rfl (fun K hK => wp_alloc_row 35 rfl (.agg (encU zS).toArray) (fun w => by kernel_rfl) (hK _ _ ?_))
  try simp only [Act.put, List.setIfInBounds_toArray, List.set_cons_zero, List.set_cons_succ]
  show wpList _ _ _ _ _ (w1.alloc (.cells (encU zS).toArray 35))
  have HST : Hid (Below w1.heap.size w1 (w1.alloc (.cells (encU zS).toArray 35))) := Lib.hid ((Below.refl _ _).alloc (Nat.le_refl _) _)
  have HX2 : Hid (Has (w1.alloc (.cells (encU zS).toArray 35)) w1.heap.size 35 (encU zS)) := Lib.hid (Has.made' _ _ _ _ rfl)
  replace HX1 := Lib.hid (HX1.out.keepB HST.out)
  have HGg2 : Hid (w.heap.size ≤ w1.heap.size) := Lib.hid HB.out.size
  replace HB := Lib.hid (HB.out.trans (HST.out.mono HB.out.size))
  clear HST
  generalize w1.alloc (.cells (encU zS).toArray 35) = w2 at *
  generalize w1.heap.size = g2 at *
  refine wpList_nil ?_
  go_upto_region 1 with fail
  refine wp_region_lit ?_
  try simp only [Act.put, List.setIfInBounds_toArray, List.set_cons_zero, List.set_cons_succ]
  refine lp_step rfl (fun K hK => wp_lit8 1 _ rfl ((t67.map u8v).toArray) (by decide) (by decide) (by kernel_rfl) (hK _ _ ?_))
  try simp only [Act.put, List.setIfInBounds_toArray, List.set_cons_zero, List.set_cons_succ]
  have HO := Lib.hid (OwB.made w2 t67 1 rfl (by decide))
  have HS3 : Hid (Below w2.heap.size w2 (w2.alloc (.cells (t67.map u8v).toArray 5))) := Lib.hid ((Below.refl _ _).alloc (Nat.le_refl _) _)
  have HZ3 : Hid (w2.heap.size ≤ (w2.alloc (.cells (t67.map u8v).toArray 5)).heap.size) := Lib.hid HS3.out.size
  have HX3 := Lib.hid (HX1.out.keepB HS3.out)
  generalize w2.alloc (.cells (t67.map u8v).toArray 5) = w3 at *
  refine lp_pure rfl (ex_loadR 35 (.tmp 1) rfl ⟨g1, 0, none⟩ rfl (fun _ => by kernel_rfl) (encU x) (by rw [encU_len]; kernel_rfl) (HX3.out.part (encU x) 0 (encU_all' x))) ?_
  try simp only [Act.put, List.setIfInBounds_toArray, List.set_cons_zero, List.set_cons_succ]
  refine lp_call rfl 48 #[.tmp 3, .tmp 4] _ rfl #[.slice (some ⟨w2.heap.size, 0, none⟩) 1 1, .agg (encU x).toArray] (by kernel_rfl) (fun w => by kernel_rfl) (putSum_any x t67 _ w2.heap.size w2 w3 HS3.out HZ3.out HO.out (by decide)) ?_
  rintro e w4 ⟨⟨v4, rfl, ho4⟩, hb4⟩
  refine ⟨v4, rfl, ?_⟩
  try simp only [Act.put, List.setIfInBounds_toArray, List.set_cons_zero, List.set_cons_succ]
  refine lp_call rfl 47 #[.tmp 5] _ rfl #[v4] (by kernel_rfl) (fun w => by kernel_rfl) (rof_ow ho4 (by rw [List.length_append, x.2]; decide)) ?_
  rintro e w5 ⟨rfl, hb5⟩
  refine ⟨_, rfl, ?_⟩
  try simp only [Act.put, List.setIfInBounds_toArray, List.set_cons_zero, List.set_cons_succ]
  have hb6 := hb4.trans (hb5.mono hb4.size)
  have HX5 := Lib.hid (HX2.out.keepB hb6)
  replace HB := Lib.hid (HB.out.trans (hb6.mono HB.out.size))
  clear hb4 hb5 hb6 ho4
  refine wpList_store_row rfl 35 (.tmp 2) (.tmp 6) rfl g2 (encU (chkS x)).toArray rfl rfl 35 (encU zS).toArray HX5.out (by rw [List.size_toArray, encU_len]; kernel_rfl) (by simp only [List.size_toArray, encU_len]) (encU_all _) ?_
  simp only [Act.put]
  refine wpList_nil ?_
  have HP : Hid (Has (w5.setRow g2 (encU (chkS x)).toArray) g2 35 (encU (chkS x))) := Lib.hid (HX5.out.rowl _)
  have HF := Lib.hid (below_row HB.out HGg2.out (encU (chkS x)).toArray)
  go_wp2_with fail
  (try simp only [Exit.inBlock, Exit.then])
  refine bodyPost_ret (v := .agg (encU (chkS x)).toArray) ?_ rfl ⟨⟨_, rfl, rfl⟩, HF.out⟩
  exact results_cell_row rfl _ _ g2 35 _ (0, 0) _ rfl HP.out Tryd.underlying35 rfl (by rw [List.size_toArray, encU_len]; kernel_rfl)
theorem rchk_any (x : Su) (w : World) : Calls Tryd.prog 19 #[.agg (encU x).toArray] w fun e w' => (∃ v, e = .returned v ∧ v = .agg (encU (chkS x)).toArray) ∧ Below w.heap.size w w' := rchk_b x w w (Below.refl _ _)
def waitRp1 (i : Nat) : List Nat := ([[], [0], [], [1, 2], [], [4], [], [5, 6], [], [8], [], [10], [9, 11], [3, 7, 12], [0, 1, 2, 3, 4, 5, 6, 7, 8, 9, 10, 11, 12, 13]] : List (List Nat)).getD i []
def slotsRp1 : List (Nat × Nat) := [(7, 0), (8, 1), (9, 2), (10, 3), (11, 4), (12, 5), (13, 6), (14, 7), (15, 8), (16, 9), (17, 10), (18, 11), (19, 12), (20, 13)]
theorem sbRp1 : slotsB slotsRp1 = true := by kernel_rfl
theorem chkRp1 : flwB slotsRp1 waitRp1 14 (regOf Tryd.f20.body 1) = true := by kernel_rfl
set_option maxHeartbeats 4000000 in
set_option maxRecDepth 100000 in
theorem rput_b (c : Ce) (x : Su) (n : Int) (w w0 : World) (hB : Below w.heap.size w w0) : Calls Tryd.prog 20 #[aggC c, .agg (encU x).toArray, .int .i64 n] w0 fun e w' => (∃ v, e = .returned v ∧ v = aggC (withC c n x (chkS x))) ∧ Below w.heap.size w w' := by
  go_enter Tryd.func20, Tryd.ntmps20
  have HB := Lib.hid hB
  clear hB
  go_upto_region 0 with fail
  refine wp_region_lit ?_
  try simp only [Act.put, List.setIfInBounds_toArray, List.set_cons_zero, List.set_cons_succ]
  refine lp_step rfl (fun K hK => wp_box_row 37 (.tmp 0) rfl (aggC c) rfl (hK _ _ ?_))
  try simp only [Act.put, List.setIfInBounds_toArray, List.set_cons_zero, List.set_cons_succ]
  show wpList _ _ _ _ _ (w0.alloc (.cells (encC c).toArray 37))
  have HST : Hid (Below w0.heap.size w0 (w0.alloc (.cells (encC c).toArray 37))) := Lib.hid ((Below.refl _ _).alloc (Nat.le_refl _) _)
  have HX1 : Hid (Has (w0.alloc (.cells (encC c).toArray 37)) w0.heap.size 37 (encC c)) := Lib.hid (Has.made' _ _ _ _ rfl)
  have HGg1 : Hid (w.heap.size ≤ w0.heap.size) := Lib.hid HB.out.size
  replace HB := Lib.hid (HB.out.trans (HST.out.mono HB.out.size))
  clear HST
  generalize w0.alloc (.cells (encC c).toArray 37) = w1 at *
  generalize w0.heap.size = g1 at *
  refine lp_step rfl (fun K hK => wp_box_row 35 (.tmp 1) rfl (.agg (encU x).toArray) rfl (hK _ _ ?_))
  try simp only [Act.put, List.setIfInBounds_toArray, List.set_cons_zero, List.set_cons_succ]
  show wpList _ _ _ _ _ (w1.alloc (.cells (encU x).toArray 35))
  have HST : Hid (Below w1.heap.size w1 (w1.alloc (.cells (encU x).toArray 35))) := Lib.hid ((Below.refl _ _).alloc (Nat.le_refl _) _)
  have HX2 : Hid (Has (w1.alloc (.cells (encU x).toArray 35)) w1.heap.size 35 (encU x)) := Lib.hid (Has.made' _ _ _ _ rfl)
  replace HX1 := Lib.hid (HX1.out.keepB HST.out)
  have HGg2 : Hid (w.heap.size ≤ w1.heap.size) := Lib.hid HB.out.size
  replace HB := Lib.hid (HB.out.trans (HST.out.mono HB.out.size))
  clear HST
  generalize w1.alloc (.cells (encU x).toArray 35) = w2 at *
  generalize w1.heap.size = g2 at *
  refine lp_step rfl (fun K hK => wp_alloc_row 37 rfl (aggC zC) (fun w => by kernel_rfl) (hK _ _ ?_))
  try simp only [Act.put, List.setIfInBounds_toArray, List.set_cons_zero, List.set_cons_succ]
  show wpList _ _ _ _ _ (w2.alloc (.cells (encC zC).toArray 37))
  have HST : Hid (Below w2.heap.size w2 (w2.alloc (.cells (encC zC).toArray 37))) := Lib.hid ((Below.refl _ _).alloc (Nat.le_refl _) _)
  have HX3 : Hid (Has (w2.alloc (.cells (encC zC).toArray 37)) w2.heap.size 37 (encC zC)) := Lib.hid (Has.made' _ _ _ _ rfl)
  replace HX1 := Lib.hid (HX1.out.keepB HST.out)
  replace HX2 := Lib.hid (HX2.out.keepB HST.out)
  have HGg3 : Hid (w.heap.size ≤ w2.heap.size) := Lib.hid HB.out.size
  replace HB := Lib.hid (HB.out.trans (HST.out.mono HB.out.size))
  clear HST
  generalize w2.alloc (.cells (encC zC).toArray 37) = w3 at *
  generalize w2.heap.size = g3 at *
  refine wpList_nil ?_
  go_upto_region 1 with fail
  have HST : Hid (Below w3.heap.size w3 w3.drew) := Lib.hid (Below.refl _ _).drew
  replace HX1 := Lib.hid (HX1.out.keepB HST.out)
  replace HX2 := Lib.hid (HX2.out.keepB HST.out)
  replace HX3 := Lib.hid (HX3.out.keepB HST.out)
  replace HB := Lib.hid (HB.out.trans (HST.out.mono HB.out.size))
  clear HST
  refine wp_act (fun a0 ha0 => ?_)
  have zsz : a0.tmps.size = 21 := by rw [ha0]; rfl
  have z3 : a0.eval (.tmp 3) = .pointer (some ⟨g1, 0, none⟩) := by rw [ha0]; rfl
  have z2 : a0.eval (.tmp 2) = .int .i64 n := by rw [ha0]; rfl
  have z4 : a0.eval (.tmp 4) = .pointer (some ⟨g2, 0, none⟩) := by rw [ha0]; rfl
  refine wp_region_flw (E := Flz) [] slotsRp1 waitRp1 [Fct.val Flz 0 (.pointer (some ⟨g1, 0, none⟩)), Fct.val Flz 1 (.int .i64 (c.1)), Fct.val Flz 2 (.int .i64 n), Fct.val Flz 3 (.int .i64 (IntKind.i64.wrap ((c.1) + n))), Fct.val Flz 4 (.pointer (some ⟨g1, 1, none⟩)), Fct.val Flz 5 (.agg (encU c.2.1).toArray), Fct.val Flz 6 (.agg (encU x).toArray), Fct.val Flz 7 (.agg (encU (xorS c.2.1 x)).toArray), Fct.val Flz 8 (.pointer (some ⟨g1, 33, none⟩)), Fct.val Flz 9 (.agg (encU c.2.2).toArray), Fct.val Flz 10 (.agg (encU x).toArray), Fct.val Flz 11 (.agg (encU (chkS x)).toArray), Fct.val Flz 12 (.agg (encU (xorS c.2.2 (chkS x))).toArray), Fct.val Flz 13 (aggC ((IntKind.i64.wrap ((c.1) + n), xorS c.2.1 x, xorS c.2.2 (chkS x))))] (fun w' => Below w3.drew.heap.size w3.drew w') _ 14 1 chkRp1 (by kernel_rfl) rfl (by kernel_rfl) (by kernel_rfl) (by decide) (Below.refl _ _) ?_ ?_
  · refine lt_s (lt_s (lt_s (lt_s (lt_s (lt_s (lt_s (lt_s (lt_s (lt_s (lt_s (lt_s (lt_s (lt_s (lt_0) ?_) ?_) ?_) ?_) ?_) ?_) ?_) ?_) ?_) ?_) ?_) ?_) ?_) ?_
    · intro f w1 hS hf
      generalize hA : putAll _ _ f = aA
      have r3 : aA.eval (.tmp 3) = .pointer (some ⟨g1, 0, none⟩) := by rw [← hA]; exact putAll_off f 3 slotsRp1 a0 (by kernel_rfl) z3
      exact flw_val rfl rfl (.pointer (some ⟨g1, 0, none⟩)) (fld0R (.tmp 3) rfl g1 r3) hS (Flz.refl _) (updF_self _ _ _)
    · intro f w1 hS hf
      generalize hA : putAll _ _ f = aA
      have h7 : f 0 = .pointer (some ⟨g1, 0, none⟩) := hf 0 (by decide)
      have r7 : aA.eval (.tmp 7) = .pointer (some ⟨g1, 0, none⟩) := by rw [← hA]; exact putAll_at f 7 0 slotsRp1 a0 sbRp1 (by kernel_rfl) zsz rfl h7
      exact flw_val rfl rfl (.int .i64 (c.1)) (ex_load1 2 (.tmp 7) rfl ⟨g1, 0, none⟩ r7 (fun _ => by kernel_rfl) ((HX1.out.keepB hS).cellv (encC_0 c))) hS (Flz.refl _) (updF_self _ _ _)
    · intro f w1 hS hf
      generalize hA : putAll _ _ f = aA
      have r2 : aA.eval (.tmp 2) = .int .i64 n := by rw [← hA]; exact putAll_off f 2 slotsRp1 a0 (by kernel_rfl) z2
      exact flw_val rfl rfl (.int .i64 n) (ex_move (.tmp 2) rfl r2) hS (Flz.refl _) (updF_self _ _ _)
    · intro f w1 hS hf
      generalize hA : putAll _ _ f = aA
      have h8 : f 1 = .int .i64 (c.1) := hf 1 (by decide)
      have r8 : aA.eval (.tmp 8) = .int .i64 (c.1) := by rw [← hA]; exact putAll_at f 8 1 slotsRp1 a0 sbRp1 (by kernel_rfl) zsz rfl h8
      have h9 : f 2 = .int .i64 n := hf 2 (by decide)
      have r9 : aA.eval (.tmp 9) = .int .i64 n := by rw [← hA]; exact putAll_at f 9 2 slotsRp1 a0 sbRp1 (by kernel_rfl) zsz rfl h9
      exact flw_val rfl rfl (.int .i64 (IntKind.i64.wrap ((c.1) + n))) (ex_int .add _ _ (.tmp 8) (.tmp 9) rfl .i64 c.1 n r8 r9 (.int .i64 (IntKind.i64.wrap ((c.1) + n))) (fun _ => rfl)) hS (Flz.refl _) (updF_self _ _ _)
    · intro f w1 hS hf
      generalize hA : putAll _ _ f = aA
      have r3 : aA.eval (.tmp 3) = .pointer (some ⟨g1, 0, none⟩) := by rw [← hA]; exact putAll_off f 3 slotsRp1 a0 (by kernel_rfl) z3
      exact flw_val rfl rfl (.pointer (some ⟨g1, 1, none⟩)) (fld1R (.tmp 3) rfl g1 r3) hS (Flz.refl _) (updF_self _ _ _)
    · intro f w1 hS hf
      generalize hA : putAll _ _ f = aA
      have h11 : f 4 = .pointer (some ⟨g1, 1, none⟩) := hf 4 (by decide)
      have r11 : aA.eval (.tmp 11) = .pointer (some ⟨g1, 1, none⟩) := by rw [← hA]; exact putAll_at f 11 4 slotsRp1 a0 sbRp1 (by kernel_rfl) zsz rfl h11
      exact flw_val rfl rfl (.agg (encU c.2.1).toArray) (ex_loadR 35 (.tmp 11) rfl ⟨g1, 1, none⟩ r11 (fun _ => by kernel_rfl) (encU c.2.1) (by rw [encU_len]; kernel_rfl) ((HX1.out.keepB hS).part (encU c.2.1) 1 (encC_key c))) hS (Flz.refl _) (updF_self _ _ _)
    · intro f w1 hS hf
      generalize hA : putAll _ _ f = aA
      have r4 : aA.eval (.tmp 4) = .pointer (some ⟨g2, 0, none⟩) := by rw [← hA]; exact putAll_off f 4 slotsRp1 a0 (by kernel_rfl) z4
      exact flw_val rfl rfl (.agg (encU x).toArray) (ex_loadR 35 (.tmp 4) rfl ⟨g2, 0, none⟩ r4 (fun _ => by kernel_rfl) (encU x) (by rw [encU_len]; kernel_rfl) ((HX2.out.keepB hS).part (encU x) 0 (encU_all' x))) hS (Flz.refl _) (updF_self _ _ _)
    · intro f w1 hS hf
      generalize hA : putAll _ _ f = aA
      have h12 : f 5 = .agg (encU c.2.1).toArray := hf 5 (by decide)
      have r12 : aA.eval (.tmp 12) = .agg (encU c.2.1).toArray := by rw [← hA]; exact putAll_at f 12 5 slotsRp1 a0 sbRp1 (by kernel_rfl) zsz rfl h12
      have h13 : f 6 = .agg (encU x).toArray := hf 6 (by decide)
      have r13 : aA.eval (.tmp 13) = .agg (encU x).toArray := by rw [← hA]; exact putAll_at f 13 6 slotsRp1 a0 sbRp1 (by kernel_rfl) zsz rfl h13
      exact flw_call rfl rfl 49 #[(.tmp 12), (.tmp 13)] _ rfl #[.agg (encU c.2.1).toArray, .agg (encU x).toArray] (by simp only [List.map_toArray, List.map_cons, List.map_nil, r12, r13]) (fun w => by kernel_rfl) (fun v _ => v = .agg (encU (xorS c.2.1 x)).toArray) (xorR_any c.2.1 x w1) (fun v w' hr hb => ⟨hS.trans (hb.mono hS.size), Flz.of hb, (updF_self _ _ _).trans hr⟩)
    · intro f w1 hS hf
      generalize hA : putAll _ _ f = aA
      have r3 : aA.eval (.tmp 3) = .pointer (some ⟨g1, 0, none⟩) := by rw [← hA]; exact putAll_off f 3 slotsRp1 a0 (by kernel_rfl) z3
      exact flw_val rfl rfl (.pointer (some ⟨g1, 33, none⟩)) (fld2R (.tmp 3) rfl g1 r3) hS (Flz.refl _) (updF_self _ _ _)
    · intro f w1 hS hf
      generalize hA : putAll _ _ f = aA
      have h15 : f 8 = .pointer (some ⟨g1, 33, none⟩) := hf 8 (by decide)
      have r15 : aA.eval (.tmp 15) = .pointer (some ⟨g1, 33, none⟩) := by rw [← hA]; exact putAll_at f 15 8 slotsRp1 a0 sbRp1 (by kernel_rfl) zsz rfl h15
      exact flw_val rfl rfl (.agg (encU c.2.2).toArray) (ex_loadR 35 (.tmp 15) rfl ⟨g1, 33, none⟩ r15 (fun _ => by kernel_rfl) (encU c.2.2) (by rw [encU_len]; kernel_rfl) ((HX1.out.keepB hS).part (encU c.2.2) 33 (encC_chk c))) hS (Flz.refl _) (updF_self _ _ _)
    · intro f w1 hS hf
      generalize hA : putAll _ _ f = aA
      have r4 : aA.eval (.tmp 4) = .pointer (some ⟨g2, 0, none⟩) := by rw [← hA]; exact putAll_off f 4 slotsRp1 a0 (by kernel_rfl) z4
      exact flw_val rfl rfl (.agg (encU x).toArray) (ex_loadR 35 (.tmp 4) rfl ⟨g2, 0, none⟩ r4 (fun _ => by kernel_rfl) (encU x) (by rw [encU_len]; kernel_rfl) ((HX2.out.keepB hS).part (encU x) 0 (encU_all' x))) hS (Flz.refl _) (updF_self _ _ _)
    · intro f w1 hS hf
      generalize hA : putAll _ _ f = aA
      have h17 : f 10 = .agg (encU x).toArray := hf 10 (by decide)
      have r17 : aA.eval (.tmp 17) = .agg (encU x).toArray := by rw [← hA]; exact putAll_at f 17 10 slotsRp1 a0 sbRp1 (by kernel_rfl) zsz rfl h17
      exact flw_call rfl rfl 19 #[(.tmp 17)] _ rfl #[.agg (encU x).toArray] (by simp only [List.map_toArray, List.map_cons, List.map_nil, r17]) (fun w => by kernel_rfl) (fun v _ => v = .agg (encU (chkS x)).toArray) (rchk_any x w1) (fun v w' hr hb => ⟨hS.trans (hb.mono hS.size), Flz.of hb, (updF_self _ _ _).trans hr⟩)
    · intro f w1 hS hf
      generalize hA : putAll _ _ f = aA
      have h16 : f 9 = .agg (encU c.2.2).toArray := hf 9 (by decide)
      have r16 : aA.eval (.tmp 16) = .agg (encU c.2.2).toArray := by rw [← hA]; exact putAll_at f 16 9 slotsRp1 a0 sbRp1 (by kernel_rfl) zsz rfl h16
      have h18 : f 11 = .agg (encU (chkS x)).toArray := hf 11 (by decide)
      have r18 : aA.eval (.tmp 18) = .agg (encU (chkS x)).toArray := by rw [← hA]; exact putAll_at f 18 11 slotsRp1 a0 sbRp1 (by kernel_rfl) zsz rfl h18
      exact flw_call rfl rfl 49 #[(.tmp 16), (.tmp 18)] _ rfl #[.agg (encU c.2.2).toArray, .agg (encU (chkS x)).toArray] (by simp only [List.map_toArray, List.map_cons, List.map_nil, r16, r18]) (fun w => by kernel_rfl) (fun v _ => v = .agg (encU (xorS c.2.2 (chkS x))).toArray) (xorR_any c.2.2 (chkS x) w1) (fun v w' hr hb => ⟨hS.trans (hb.mono hS.size), Flz.of hb, (updF_self _ _ _).trans hr⟩)
    · intro f w1 hS hf
      generalize hA : putAll _ _ f = aA
      have h10 : f 3 = .int .i64 (IntKind.i64.wrap ((c.1) + n)) := hf 3 (by decide)
      have r10 : aA.eval (.tmp 10) = .int .i64 (IntKind.i64.wrap ((c.1) + n)) := by rw [← hA]; exact putAll_at f 10 3 slotsRp1 a0 sbRp1 (by kernel_rfl) zsz rfl h10
      have h14 : f 7 = .agg (encU (xorS c.2.1 x)).toArray := hf 7 (by decide)
      have r14 : aA.eval (.tmp 14) = .agg (encU (xorS c.2.1 x)).toArray := by rw [← hA]; exact putAll_at f 14 7 slotsRp1 a0 sbRp1 (by kernel_rfl) zsz rfl h14
      have h19 : f 12 = .agg (encU (xorS c.2.2 (chkS x))).toArray := hf 12 (by decide)
      have r19 : aA.eval (.tmp 19) = .agg (encU (xorS c.2.2 (chkS x))).toArray := by rw [← hA]; exact putAll_at f 19 12 slotsRp1 a0 sbRp1 (by kernel_rfl) zsz rfl h19
      exact flw_val rfl rfl (aggC ((IntKind.i64.wrap ((c.1) + n), xorS c.2.1 x, xorS c.2.2 (chkS x)))) (ex_build 37 _ rfl (encC ((IntKind.i64.wrap ((c.1) + n), xorS c.2.1 x, xorS c.2.2 (chkS x)))).toArray [(0, .int .i64 (IntKind.i64.wrap ((c.1) + n))), (1, .agg (encU (xorS c.2.1 x)).toArray), (2, .agg (encU (xorS c.2.2 (chkS x))).toArray)] (by simp only [List.map_toArray, List.map_cons, List.map_nil, r10, r14, r19]) (builtR3 (IntKind.i64.wrap ((c.1) + n)) (xorS c.2.1 x) (xorS c.2.2 (chkS x)))) hS (Flz.refl _) (updF_self _ _ _)
  intro f w1 hS hf hap
  have h0 : f 0 = .pointer (some ⟨g1, 0, none⟩) := hf 0 (by decide)
  have h1 : f 1 = .int .i64 (c.1) := hf 1 (by decide)
  have h2 : f 2 = .int .i64 n := hf 2 (by decide)
  have h3 : f 3 = .int .i64 (IntKind.i64.wrap ((c.1) + n)) := hf 3 (by decide)
  have h4 : f 4 = .pointer (some ⟨g1, 1, none⟩) := hf 4 (by decide)
  have h5 : f 5 = .agg (encU c.2.1).toArray := hf 5 (by decide)
  have h6 : f 6 = .agg (encU x).toArray := hf 6 (by decide)
  have h7 : f 7 = .agg (encU (xorS c.2.1 x)).toArray := hf 7 (by decide)
  have h8 : f 8 = .pointer (some ⟨g1, 33, none⟩) := hf 8 (by decide)
  have h9 : f 9 = .agg (encU c.2.2).toArray := hf 9 (by decide)
  have h10 : f 10 = .agg (encU x).toArray := hf 10 (by decide)
  have h11 : f 11 = .agg (encU (chkS x)).toArray := hf 11 (by decide)
  have h12 : f 12 = .agg (encU (xorS c.2.2 (chkS x))).toArray := hf 12 (by decide)
  have h13 : f 13 = aggC ((IntKind.i64.wrap ((c.1) + n), xorS c.2.1 x, xorS c.2.2 (chkS x))) := hf 13 (by decide)
  clear hf hap
  clear zsz z3 z2 z4
  subst ha0
  simp only [slotsRp1, putAll, h0, h1, h2, h3, h4, h5, h6, h7, h8, h9, h10, h11, h12, h13, Act.put, List.setIfInBounds_toArray, List.set_cons_zero, List.set_cons_succ]
  clear h0 h1 h2 h3 h4 h5 h6 h7 h8 h9 h10 h11 h12 h13
  refine tl_store rfl (by kernel_rfl) 37 (.tmp 6) (.tmp 20) rfl g3 (encC (withC c n x (chkS x))) _ rfl rfl _ (HX3.out.keepB hS) (by rw [encC_len]; kernel_rfl) (by simp only [encC_len]) (encC_ones _) ?_
  intro w9 hp hbl hot
  refine tl_nilN ?_
  have HP := Lib.hid hp
  have HF := Lib.hid ((HB.out.trans (hS.mono HB.out.size)).trans (hbl _ HGg3.out))
  clear hp hbl hot hS
  go_wp2_with fail
  (try simp only [Exit.inBlock, Exit.then])
  refine bodyPost_ret (v := .agg (encC (withC c n x (chkS x))).toArray) ?_ rfl ⟨⟨_, rfl, rfl⟩, HF.out⟩
  exact results_cell_row rfl _ _ g3 37 _ (0, 0) _ rfl HP.out Tryd.underlying37 rfl (by rw [List.size_toArray, encC_len]; kernel_rfl)
theorem rput_any (c : Ce) (x : Su) (n : Int) (w : World) : Calls Tryd.prog 20 #[aggC c, .agg (encU x).toArray, .int .i64 n] w fun e w' => (∃ v, e = .returned v ∧ v = aggC (withC c n x (chkS x))) ∧ Below w.heap.size w w' := rput_b c x n w w (Below.refl _ _)
/-- As the document reckons it. -/
theorem minusC_eq (a b : Ce) : (IntKind.i64.wrap (a.1 - b.1), xorS a.2.1 b.2.1, xorS a.2.2 b.2.2) = minusC a b := by
  unfold minusC withC
  rw [wrap_sub]
def waitRm1 (i : Nat) : List Nat := ([[], [0], [], [2], [1, 3], [], [5], [], [7], [6, 8], [], [10], [], [12], [11, 13], [4, 9, 14], [0, 1, 2, 3, 4, 5, 6, 7, 8, 9, 10, 11, 12, 13, 14, 15]] : List (List Nat)).getD i []
def slotsRm1 : List (Nat × Nat) := [(5, 0), (6, 1), (7, 2), (8, 3), (9, 4), (10, 5), (11, 6), (12, 7), (13, 8), (14, 9), (15, 10), (16, 11), (17, 12), (18, 13), (19, 14), (20, 15)]
theorem sbRm1 : slotsB slotsRm1 = true := by kernel_rfl
theorem chkRm1 : flwB slotsRm1 waitRm1 16 (regOf Tryd.f21.body 1) = true := by kernel_rfl
set_option maxHeartbeats 4000000 in
set_option maxRecDepth 100000 in
theorem rminus_b (a : Ce) (b : Ce) (w w0 : World) (hB : Below w.heap.size w w0) : Calls Tryd.prog 21 #[aggC a, aggC b] w0 fun e w' => (∃ v, e = .returned v ∧ v = aggC (minusC a b)) ∧ Below w.heap.size w w' := by
  go_enter Tryd.func21, Tryd.ntmps21
  have HB := Lib.hid hB
  clear hB
  go_upto_region 0 with fail
  refine wp_region_lit ?_
  try simp only [Act.put, List.setIfInBounds_toArray, List.set_cons_zero, List.set_cons_succ]
  refine lp_step rfl (fun K hK => wp_box_row 37 (.tmp 0) rfl (aggC a) rfl (hK _ _ ?_))
  try simp only [Act.put, List.setIfInBounds_toArray, List.set_cons_zero, List.set_cons_succ]
  show wpList _ _ _ _ _ (w0.alloc (.cells (encC a).toArray 37))
  have HST : Hid (Below w0.heap.size w0 (w0.alloc (.cells (encC a).toArray 37))) := Lib.hid ((Below.refl _ _).alloc (Nat.le_refl _) _)
  have HX1 : Hid (Has (w0.alloc (.cells (encC a).toArray 37)) w0.heap.size 37 (encC a)) := Lib.hid (Has.made' _ _ _ _ rfl)
  have HGg1 : Hid (w.heap.size ≤ w0.heap.size) := Lib.hid HB.out.size
  replace HB := Lib.hid (HB.out.trans (HST.out.mono HB.out.size))
  clear HST
  generalize w0.alloc (.cells (encC a).toArray 37) = w1 at *
  generalize w0.heap.size = g1 at *
  refine lp_step rfl (fun K hK => wp_box_row 37 (.tmp 1) rfl (aggC b) rfl (hK _ _ ?_))
  try simp only [Act.put, List.setIfInBounds_toArray, List.set_cons_zero, List.set_cons_succ]
  show wpList _ _ _ _ _ (w1.alloc (.cells (encC b).toArray 37))
  have HST : Hid (Below w1.heap.size w1 (w1.alloc (.cells (encC b).toArray 37))) := Lib.hid ((Below.refl _ _).alloc (Nat.le_refl _) _)
  have HX2 : Hid (Has (w1.alloc (.cells (encC b).toArray 37)) w1.heap.size 37 (encC b)) := Lib.hid (Has.made' _ _ _ _ rfl)
  replace HX1 := Lib.hid (HX1.out.keepB HST.out)
  have HGg2 : Hid (w.heap.size ≤ w1.heap.size) := Lib.hid HB.out.size
  replace HB := Lib.hid (HB.out.trans (HST.out.mono HB.out.size))
  clear HST
  generalize w1.alloc (.cells (encC b).toArray 37) = w2 at *
  generalize w1.heap.size = g2 at *
  refine lp_step rfl (fun K hK => wp_alloc_row 37 rfl (aggC zC) (fun w => by kernel_rfl) (hK _ _ ?_))
  try simp only [Act.put, List.setIfInBounds_toArray, List.set_cons_zero, List.set_cons_succ]
  show wpList _ _ _ _ _ (w2.alloc (.cells (encC zC).toArray 37))
  have HST : Hid (Below w2.heap.size w2 (w2.alloc (.cells (encC zC).toArray 37))) := Lib.hid ((Below.refl _ _).alloc (Nat.le_refl _) _)
  have HX3 : Hid (Has (w2.alloc (.cells (encC zC).toArray 37)) w2.heap.size 37 (encC zC)) := Lib.hid (Has.made' _ _ _ _ rfl)
  replace HX1 := Lib.hid (HX1.out.keepB HST.out)
  replace HX2 := Lib.hid (HX2.out.keepB HST.out)
  have HGg3 : Hid (w.heap.size ≤ w2.heap.size) := Lib.hid HB.out.size
  replace HB := Lib.hid (HB.out.trans (HST.out.mono HB.out.size))
  clear HST
  generalize w2.alloc (.cells (encC zC).toArray 37) = w3 at *
  generalize w2.heap.size = g3 at *
  refine wpList_nil ?_
  go_upto_region 1 with fail
  have HST : Hid (Below w3.heap.size w3 w3.drew) := Lib.hid (Below.refl _ _).drew
  replace HX1 := Lib.hid (HX1.out.keepB HST.out)
  replace HX2 := Lib.hid (HX2.out.keepB HST.out)
  replace HX3 := Lib.hid (HX3.out.keepB HST.out)
  replace HB := Lib.hid (HB.out.trans (HST.out.mono HB.out.size))
  clear HST
  refine wp_act (fun a0 ha0 => ?_)
  have zsz : a0.tmps.size = 21 := by rw [ha0]; rfl
  have z2 : a0.eval (.tmp 2) = .pointer (some ⟨g1, 0, none⟩) := by rw [ha0]; rfl
  have z3 : a0.eval (.tmp 3) = .pointer (some ⟨g2, 0, none⟩) := by rw [ha0]; rfl
  refine wp_region_flw (E := Flz) [] slotsRm1 waitRm1 [Fct.val Flz 0 (.pointer (some ⟨g1, 0, none⟩)), Fct.val Flz 1 (.int .i64 (a.1)), Fct.val Flz 2 (.pointer (some ⟨g2, 0, none⟩)), Fct.val Flz 3 (.int .i64 (b.1)), Fct.val Flz 4 (.int .i64 (IntKind.i64.wrap ((a.1) - (b.1)))), Fct.val Flz 5 (.pointer (some ⟨g1, 1, none⟩)), Fct.val Flz 6 (.agg (encU a.2.1).toArray), Fct.val Flz 7 (.pointer (some ⟨g2, 1, none⟩)), Fct.val Flz 8 (.agg (encU b.2.1).toArray), Fct.val Flz 9 (.agg (encU (xorS a.2.1 b.2.1)).toArray), Fct.val Flz 10 (.pointer (some ⟨g1, 33, none⟩)), Fct.val Flz 11 (.agg (encU a.2.2).toArray), Fct.val Flz 12 (.pointer (some ⟨g2, 33, none⟩)), Fct.val Flz 13 (.agg (encU b.2.2).toArray), Fct.val Flz 14 (.agg (encU (xorS a.2.2 b.2.2)).toArray), Fct.val Flz 15 (aggC ((IntKind.i64.wrap ((a.1) - (b.1)), xorS a.2.1 b.2.1, xorS a.2.2 b.2.2)))] (fun w' => Below w3.drew.heap.size w3.drew w') _ 16 1 chkRm1 (by kernel_rfl) rfl (by kernel_rfl) (by kernel_rfl) (by decide) (Below.refl _ _) ?_ ?_
  · refine lt_s (lt_s (lt_s (lt_s (lt_s (lt_s (lt_s (lt_s (lt_s (lt_s (lt_s (lt_s (lt_s (lt_s (lt_s (lt_s (lt_0) ?_) ?_) ?_) ?_) ?_) ?_) ?_) ?_) ?_) ?_) ?_) ?_) ?_) ?_) ?_) ?_
    · intro f w1 hS hf
      generalize hA : putAll _ _ f = aA
      have r2 : aA.eval (.tmp 2) = .pointer (some ⟨g1, 0, none⟩) := by rw [← hA]; exact putAll_off f 2 slotsRm1 a0 (by kernel_rfl) z2
      exact flw_val rfl rfl (.pointer (some ⟨g1, 0, none⟩)) (fld0R (.tmp 2) rfl g1 r2) hS (Flz.refl _) (updF_self _ _ _)
    · intro f w1 hS hf
      generalize hA : putAll _ _ f = aA
      have h5 : f 0 = .pointer (some ⟨g1, 0, none⟩) := hf 0 (by decide)
      have r5 : aA.eval (.tmp 5) = .pointer (some ⟨g1, 0, none⟩) := by rw [← hA]; exact putAll_at f 5 0 slotsRm1 a0 sbRm1 (by kernel_rfl) zsz rfl h5
      exact flw_val rfl rfl (.int .i64 (a.1)) (ex_load1 2 (.tmp 5) rfl ⟨g1, 0, none⟩ r5 (fun _ => by kernel_rfl) ((HX1.out.keepB hS).cellv (encC_0 a))) hS (Flz.refl _) (updF_self _ _ _)
    · intro f w1 hS hf
      generalize hA : putAll _ _ f = aA
      have r3 : aA.eval (.tmp 3) = .pointer (some ⟨g2, 0, none⟩) := by rw [← hA]; exact putAll_off f 3 slotsRm1 a0 (by kernel_rfl) z3
      exact flw_val rfl rfl (.pointer (some ⟨g2, 0, none⟩)) (fld0R (.tmp 3) rfl g2 r3) hS (Flz.refl _) (updF_self _ _ _)
    · intro f w1 hS hf
      generalize hA : putAll _ _ f = aA
      have h7 : f 2 = .pointer (some ⟨g2, 0, none⟩) := hf 2 (by decide)
      have r7 : aA.eval (.tmp 7) = .pointer (some ⟨g2, 0, none⟩) := by rw [← hA]; exact putAll_at f 7 2 slotsRm1 a0 sbRm1 (by kernel_rfl) zsz rfl h7
      exact flw_val rfl rfl (.int .i64 (b.1)) (ex_load1 2 (.tmp 7) rfl ⟨g2, 0, none⟩ r7 (fun _ => by kernel_rfl) ((HX2.out.keepB hS).cellv (encC_0 b))) hS (Flz.refl _) (updF_self _ _ _)
    · intro f w1 hS hf
      generalize hA : putAll _ _ f = aA
      have h6 : f 1 = .int .i64 (a.1) := hf 1 (by decide)
      have r6 : aA.eval (.tmp 6) = .int .i64 (a.1) := by rw [← hA]; exact putAll_at f 6 1 slotsRm1 a0 sbRm1 (by kernel_rfl) zsz rfl h6
      have h8 : f 3 = .int .i64 (b.1) := hf 3 (by decide)
      have r8 : aA.eval (.tmp 8) = .int .i64 (b.1) := by rw [← hA]; exact putAll_at f 8 3 slotsRm1 a0 sbRm1 (by kernel_rfl) zsz rfl h8
      exact flw_val rfl rfl (.int .i64 (IntKind.i64.wrap ((a.1) - (b.1)))) (ex_int .sub _ _ (.tmp 6) (.tmp 8) rfl .i64 a.1 b.1 r6 r8 (.int .i64 (IntKind.i64.wrap ((a.1) - (b.1)))) (fun _ => rfl)) hS (Flz.refl _) (updF_self _ _ _)
    · intro f w1 hS hf
      generalize hA : putAll _ _ f = aA
      have r2 : aA.eval (.tmp 2) = .pointer (some ⟨g1, 0, none⟩) := by rw [← hA]; exact putAll_off f 2 slotsRm1 a0 (by kernel_rfl) z2
      exact flw_val rfl rfl (.pointer (some ⟨g1, 1, none⟩)) (fld1R (.tmp 2) rfl g1 r2) hS (Flz.refl _) (updF_self _ _ _)
    · intro f w1 hS hf
      generalize hA : putAll _ _ f = aA
      have h10 : f 5 = .pointer (some ⟨g1, 1, none⟩) := hf 5 (by decide)
      have r10 : aA.eval (.tmp 10) = .pointer (some ⟨g1, 1, none⟩) := by rw [← hA]; exact putAll_at f 10 5 slotsRm1 a0 sbRm1 (by kernel_rfl) zsz rfl h10
      exact flw_val rfl rfl (.agg (encU a.2.1).toArray) (ex_loadR 35 (.tmp 10) rfl ⟨g1, 1, none⟩ r10 (fun _ => by kernel_rfl) (encU a.2.1) (by rw [encU_len]; kernel_rfl) ((HX1.out.keepB hS).part (encU a.2.1) 1 (encC_key a))) hS (Flz.refl _) (updF_self _ _ _)
    · intro f w1 hS hf
      generalize hA : putAll _ _ f = aA
      have r3 : aA.eval (.tmp 3) = .pointer (some ⟨g2, 0, none⟩) := by rw [← hA]; exact putAll_off f 3 slotsRm1 a0 (by kernel_rfl) z3
      exact flw_val rfl rfl (.pointer (some ⟨g2, 1, none⟩)) (fld1R (.tmp 3) rfl g2 r3) hS (Flz.refl _) (updF_self _ _ _)
    · intro f w1 hS hf
      generalize hA : putAll _ _ f = aA
      have h12 : f 7 = .pointer (some ⟨g2, 1, none⟩) := hf 7 (by decide)
      have r12 : aA.eval (.tmp 12) = .pointer (some ⟨g2, 1, none⟩) := by rw [← hA]; exact putAll_at f 12 7 slotsRm1 a0 sbRm1 (by kernel_rfl) zsz rfl h12
      exact flw_val rfl rfl (.agg (encU b.2.1).toArray) (ex_loadR 35 (.tmp 12) rfl ⟨g2, 1, none⟩ r12 (fun _ => by kernel_rfl) (encU b.2.1) (by rw [encU_len]; kernel_rfl) ((HX2.out.keepB hS).part (encU b.2.1) 1 (encC_key b))) hS (Flz.refl _) (updF_self _ _ _)
    · intro f w1 hS hf
      generalize hA : putAll _ _ f = aA
      have h11 : f 6 = .agg (encU a.2.1).toArray := hf 6 (by decide)
      have r11 : aA.eval (.tmp 11) = .agg (encU a.2.1).toArray := by rw [← hA]; exact putAll_at f 11 6 slotsRm1 a0 sbRm1 (by kernel_rfl) zsz rfl h11
      have h13 : f 8 = .agg (encU b.2.1).toArray := hf 8 (by decide)
      have r13 : aA.eval (.tmp 13) = .agg (encU b.2.1).toArray := by rw [← hA]; exact putAll_at f 13 8 slotsRm1 a0 sbRm1 (by kernel_rfl) zsz rfl h13
      exact flw_call rfl rfl 49 #[(.tmp 11), (.tmp 13)] _ rfl #[.agg (encU a.2.1).toArray, .agg (encU b.2.1).toArray] (by simp only [List.map_toArray, List.map_cons, List.map_nil, r11, r13]) (fun w => by kernel_rfl) (fun v _ => v = .agg (encU (xorS a.2.1 b.2.1)).toArray) (xorR_any a.2.1 b.2.1 w1) (fun v w' hr hb => ⟨hS.trans (hb.mono hS.size), Flz.of hb, (updF_self _ _ _).trans hr⟩)
    · intro f w1 hS hf
      generalize hA : putAll _ _ f = aA
      have r2 : aA.eval (.tmp 2) = .pointer (some ⟨g1, 0, none⟩) := by rw [← hA]; exact putAll_off f 2 slotsRm1 a0 (by kernel_rfl) z2
      exact flw_val rfl rfl (.pointer (some ⟨g1, 33, none⟩)) (fld2R (.tmp 2) rfl g1 r2) hS (Flz.refl _) (updF_self _ _ _)
    · intro f w1 hS hf
      generalize hA : putAll _ _ f = aA
      have h15 : f 10 = .pointer (some ⟨g1, 33, none⟩) := hf 10 (by decide)
      have r15 : aA.eval (.tmp 15) = .pointer (some ⟨g1, 33, none⟩) := by rw [← hA]; exact putAll_at f 15 10 slotsRm1 a0 sbRm1 (by kernel_rfl) zsz rfl h15
      exact flw_val rfl rfl (.agg (encU a.2.2).toArray) (ex_loadR 35 (.tmp 15) rfl ⟨g1, 33, none⟩ r15 (fun _ => by kernel_rfl) (encU a.2.2) (by rw [encU_len]; kernel_rfl) ((HX1.out.keepB hS).part (encU a.2.2) 33 (encC_chk a))) hS (Flz.refl _) (updF_self _ _ _)
    · intro f w1 hS hf
      generalize hA : putAll _ _ f = aA
      have r3 : aA.eval (.tmp 3) = .pointer (some ⟨g2, 0, none⟩) := by rw [← hA]; exact putAll_off f 3 slotsRm1 a0 (by kernel_rfl) z3
      exact flw_val rfl rfl (.pointer (some ⟨g2, 33, none⟩)) (fld2R (.tmp 3) rfl g2 r3) hS (Flz.refl _) (updF_self _ _ _)
    · intro f w1 hS hf
      generalize hA : putAll _ _ f = aA
      have h17 : f 12 = .pointer (some ⟨g2, 33, none⟩) := hf 12 (by decide)
      have r17 : aA.eval (.tmp 17) = .pointer (some ⟨g2, 33, none⟩) := by rw [← hA]; exact putAll_at f 17 12 slotsRm1 a0 sbRm1 (by kernel_rfl) zsz rfl h17
      exact flw_val rfl rfl (.agg (encU b.2.2).toArray) (ex_loadR 35 (.tmp 17) rfl ⟨g2, 33, none⟩ r17 (fun _ => by kernel_rfl) (encU b.2.2) (by rw [encU_len]; kernel_rfl) ((HX2.out.keepB hS).part (encU b.2.2) 33 (encC_chk b))) hS (Flz.refl _) (updF_self _ _ _)
    · intro f w1 hS hf
      generalize hA : putAll _ _ f = aA
      have h16 : f 11 = .agg (encU a.2.2).toArray := hf 11 (by decide)
      have r16 : aA.eval (.tmp 16) = .agg (encU a.2.2).toArray := by rw [← hA]; exact putAll_at f 16 11 slotsRm1 a0 sbRm1 (by kernel_rfl) zsz rfl h16
      have h18 : f 13 = .agg (encU b.2.2).toArray := hf 13 (by decide)
      have r18 : aA.eval (.tmp 18) = .agg (encU b.2.2).toArray := by rw [← hA]; exact putAll_at f 18 13 slotsRm1 a0 sbRm1 (by kernel_rfl) zsz rfl h18
      exact flw_call rfl rfl 49 #[(.tmp 16), (.tmp 18)] _ rfl #[.agg (encU a.2.2).toArray, .agg (encU b.2.2).toArray] (by simp only [List.map_toArray, List.map_cons, List.map_nil, r16, r18]) (fun w => by kernel_rfl) (fun v _ => v = .agg (encU (xorS a.2.2 b.2.2)).toArray) (xorR_any a.2.2 b.2.2 w1) (fun v w' hr hb => ⟨hS.trans (hb.mono hS.size), Flz.of hb, (updF_self _ _ _).trans hr⟩)
    · intro f w1 hS hf
      generalize hA : putAll _ _ f = aA
      have h9 : f 4 = .int .i64 (IntKind.i64.wrap ((a.1) - (b.1))) := hf 4 (by decide)
      have r9 : aA.eval (.tmp 9) = .int .i64 (IntKind.i64.wrap ((a.1) - (b.1))) := by rw [← hA]; exact putAll_at f 9 4 slotsRm1 a0 sbRm1 (by kernel_rfl) zsz rfl h9
      have h14 : f 9 = .agg (encU (xorS a.2.1 b.2.1)).toArray := hf 9 (by decide)
      have r14 : aA.eval (.tmp 14) = .agg (encU (xorS a.2.1 b.2.1)).toArray := by rw [← hA]; exact putAll_at f 14 9 slotsRm1 a0 sbRm1 (by kernel_rfl) zsz rfl h14
      have h19 : f 14 = .agg (encU (xorS a.2.2 b.2.2)).toArray := hf 14 (by decide)
      have r19 : aA.eval (.tmp 19) = .agg (encU (xorS a.2.2 b.2.2)).toArray := by rw [← hA]; exact putAll_at f 19 14 slotsRm1 a0 sbRm1 (by kernel_rfl) zsz rfl h19
      exact flw_val rfl rfl (aggC ((IntKind.i64.wrap ((a.1) - (b.1)), xorS a.2.1 b.2.1, xorS a.2.2 b.2.2))) (ex_build 37 _ rfl (encC ((IntKind.i64.wrap ((a.1) - (b.1)), xorS a.2.1 b.2.1, xorS a.2.2 b.2.2))).toArray [(0, .int .i64 (IntKind.i64.wrap ((a.1) - (b.1)))), (1, .agg (encU (xorS a.2.1 b.2.1)).toArray), (2, .agg (encU (xorS a.2.2 b.2.2)).toArray)] (by simp only [List.map_toArray, List.map_cons, List.map_nil, r9, r14, r19]) (builtR3 (IntKind.i64.wrap ((a.1) - (b.1))) (xorS a.2.1 b.2.1) (xorS a.2.2 b.2.2))) hS (Flz.refl _) (updF_self _ _ _)
  intro f w1 hS hf hap
  have h0 : f 0 = .pointer (some ⟨g1, 0, none⟩) := hf 0 (by decide)
  have h1 : f 1 = .int .i64 (a.1) := hf 1 (by decide)
  have h2 : f 2 = .pointer (some ⟨g2, 0, none⟩) := hf 2 (by decide)
  have h3 : f 3 = .int .i64 (b.1) := hf 3 (by decide)
  have h4 : f 4 = .int .i64 (IntKind.i64.wrap ((a.1) - (b.1))) := hf 4 (by decide)
  have h5 : f 5 = .pointer (some ⟨g1, 1, none⟩) := hf 5 (by decide)
  have h6 : f 6 = .agg (encU a.2.1).toArray := hf 6 (by decide)
  have h7 : f 7 = .pointer (some ⟨g2, 1, none⟩) := hf 7 (by decide)
  have h8 : f 8 = .agg (encU b.2.1).toArray := hf 8 (by decide)
  have h9 : f 9 = .agg (encU (xorS a.2.1 b.2.1)).toArray := hf 9 (by decide)
  have h10 : f 10 = .pointer (some ⟨g1, 33, none⟩) := hf 10 (by decide)
  have h11 : f 11 = .agg (encU a.2.2).toArray := hf 11 (by decide)
  have h12 : f 12 = .pointer (some ⟨g2, 33, none⟩) := hf 12 (by decide)
  have h13 : f 13 = .agg (encU b.2.2).toArray := hf 13 (by decide)
  have h14 : f 14 = .agg (encU (xorS a.2.2 b.2.2)).toArray := hf 14 (by decide)
  have h15 : f 15 = aggC ((IntKind.i64.wrap ((a.1) - (b.1)), xorS a.2.1 b.2.1, xorS a.2.2 b.2.2)) := hf 15 (by decide)
  clear hf hap
  clear zsz z2 z3
  subst ha0
  simp only [slotsRm1, putAll, h0, h1, h2, h3, h4, h5, h6, h7, h8, h9, h10, h11, h12, h13, h14, h15, Act.put, List.setIfInBounds_toArray, List.set_cons_zero, List.set_cons_succ]
  clear h0 h1 h2 h3 h4 h5 h6 h7 h8 h9 h10 h11 h12 h13 h14 h15
  refine tl_store rfl (by kernel_rfl) 37 (.tmp 4) (.tmp 20) rfl g3 (encC (minusC a b)) _ rfl (congrArg aggC (minusC_eq a b)) _ (HX3.out.keepB hS) (by rw [encC_len]; kernel_rfl) (by simp only [encC_len]) (encC_ones _) ?_
  intro w9 hp hbl hot
  refine tl_nilN ?_
  have HP := Lib.hid hp
  have HF := Lib.hid ((HB.out.trans (hS.mono HB.out.size)).trans (hbl _ HGg3.out))
  clear hp hbl hot hS
  go_wp2_with fail
  (try simp only [Exit.inBlock, Exit.then])
  refine bodyPost_ret (v := .agg (encC (minusC a b)).toArray) ?_ rfl ⟨⟨_, rfl, rfl⟩, HF.out⟩
  exact results_cell_row rfl _ _ g3 37 _ (0, 0) _ rfl HP.out Tryd.underlying37 rfl (by rw [List.size_toArray, encC_len]; kernel_rfl)
theorem rminus_any (a : Ce) (b : Ce) (w : World) : Calls Tryd.prog 21 #[aggC a, aggC b] w fun e w' => (∃ v, e = .returned v ∧ v = aggC (minusC a b)) ∧ Below w.heap.size w w' := rminus_b a b w w (Below.refl _ _)
def waitRc1 (i : Nat) : List Nat := ([[], [0], [], [2], [], [4], [1, 3, 5], [0, 1, 2, 3, 4, 5, 6]] : List (List Nat)).getD i []
def slotsRc1 : List (Nat × Nat) := [(3, 0), (4, 1), (5, 2), (6, 3), (7, 4), (8, 5), (9, 6)]
theorem sbRc1 : slotsB slotsRc1 = true := by kernel_rfl
theorem chkRc1 : flwO slotsRc1 waitRc1 7 (regOf Tryd.f17.body 1) = true := by kernel_rfl
set_option maxHeartbeats 4000000 in
set_option maxRecDepth 100000 in
theorem cellOf_b (c : Ce) (w w0 : World) (hB : Below w.heap.size w w0) : Calls Tryd.prog 17 #[aggC c] w0 fun e w' => (∃ v, e = .returned v ∧ v = aggC c) ∧ Below w.heap.size w w' := by
  go_enter Tryd.func17, Tryd.ntmps17
  have HB := Lib.hid hB
  clear hB
  go_upto_region 0 with fail
  refine wp_region_lit ?_
  try simp only [Act.put, List.setIfInBounds_toArray, List.set_cons_zero, List.set_cons_succ]
  refine lp_step rfl (fun K hK => wp_box_row 28 (.tmp 0) rfl (aggC c) rfl (hK _ _ ?_))
  try simp only [Act.put, List.setIfInBounds_toArray, List.set_cons_zero, List.set_cons_succ]
  show wpList _ _ _ _ _ (w0.alloc (.cells (encC c).toArray 28))
  have HST : Hid (Below w0.heap.size w0 (w0.alloc (.cells (encC c).toArray 28))) := Lib.hid ((Below.refl _ _).alloc (Nat.le_refl _) _)
  have HX1 : Hid (Has (w0.alloc (.cells (encC c).toArray 28)) w0.heap.size 28 (encC c)) := Lib.hid (Has.made' _ _ _ _ rfl)
  have HGg1 : Hid (w.heap.size ≤ w0.heap.size) := Lib.hid HB.out.size
  replace HB := Lib.hid (HB.out.trans (HST.out.mono HB.out.size))
  clear HST
  generalize w0.alloc (.cells (encC c).toArray 28) = w1 at *
  generalize w0.heap.size = g1 at *
  refine lp_step rfl (fun K hK => wp_alloc_row 37 rfl (aggC zC) (fun w => by kernel_rfl) (hK _ _ ?_))
  try simp only [Act.put, List.setIfInBounds_toArray, List.set_cons_zero, List.set_cons_succ]
  show wpList _ _ _ _ _ (w1.alloc (.cells (encC zC).toArray 37))
  have HST : Hid (Below w1.heap.size w1 (w1.alloc (.cells (encC zC).toArray 37))) := Lib.hid ((Below.refl _ _).alloc (Nat.le_refl _) _)
  have HX2 : Hid (Has (w1.alloc (.cells (encC zC).toArray 37)) w1.heap.size 37 (encC zC)) := Lib.hid (Has.made' _ _ _ _ rfl)
  replace HX1 := Lib.hid (HX1.out.keepB HST.out)
  have HGg2 : Hid (w.heap.size ≤ w1.heap.size) := Lib.hid HB.out.size
  replace HB := Lib.hid (HB.out.trans (HST.out.mono HB.out.size))
  clear HST
  generalize w1.alloc (.cells (encC zC).toArray 37) = w2 at *
  generalize w1.heap.size = g2 at *
  refine wpList_nil ?_
  go_upto_region 1 with fail
  refine wp_act (fun a0 ha0 => ?_)
  have zsz : a0.tmps.size = 10 := by rw [ha0]; rfl
  have z1 : a0.eval (.tmp 1) = .pointer (some ⟨g1, 0, none⟩) := by rw [ha0]; rfl
  refine wp_region_flwo (E := Flz) [] slotsRc1 waitRc1 [Fct.val Flz 0 (.pointer (some ⟨g1, 0, none⟩)), Fct.val Flz 1 (.int .i64 (c.1)), Fct.val Flz 2 (.pointer (some ⟨g1, 1, none⟩)), Fct.val Flz 3 (.agg (encU c.2.1).toArray), Fct.val Flz 4 (.pointer (some ⟨g1, 33, none⟩)), Fct.val Flz 5 (.agg (encU c.2.2).toArray), Fct.val Flz 6 (aggC ((c.1, c.2.1, c.2.2)))] (fun w' => Below w2.heap.size w2 w') _ 7 1 chkRc1 (by kernel_rfl) rfl (by kernel_rfl) (by decide) (Below.refl _ _) ?_ ?_
  · refine lt_s (lt_s (lt_s (lt_s (lt_s (lt_s (lt_s (lt_0) ?_) ?_) ?_) ?_) ?_) ?_) ?_
    · intro f w1 hS hf
      generalize hA : putAll _ _ f = aA
      have r1 : aA.eval (.tmp 1) = .pointer (some ⟨g1, 0, none⟩) := by rw [← hA]; exact putAll_off f 1 slotsRc1 a0 (by kernel_rfl) z1
      exact flw_val rfl rfl (.pointer (some ⟨g1, 0, none⟩)) (fld0C (.tmp 1) rfl g1 r1) hS (Flz.refl _) (updF_self _ _ _)
    · intro f w1 hS hf
      generalize hA : putAll _ _ f = aA
      have h3 : f 0 = .pointer (some ⟨g1, 0, none⟩) := hf 0 (by decide)
      have r3 : aA.eval (.tmp 3) = .pointer (some ⟨g1, 0, none⟩) := by rw [← hA]; exact putAll_at f 3 0 slotsRc1 a0 sbRc1 (by kernel_rfl) zsz rfl h3
      exact flw_val rfl rfl (.int .i64 (c.1)) (ex_load1 2 (.tmp 3) rfl ⟨g1, 0, none⟩ r3 (fun _ => by kernel_rfl) ((HX1.out.keepB hS).cellv (encC_0 c))) hS (Flz.refl _) (updF_self _ _ _)
    · intro f w1 hS hf
      generalize hA : putAll _ _ f = aA
      have r1 : aA.eval (.tmp 1) = .pointer (some ⟨g1, 0, none⟩) := by rw [← hA]; exact putAll_off f 1 slotsRc1 a0 (by kernel_rfl) z1
      exact flw_val rfl rfl (.pointer (some ⟨g1, 1, none⟩)) (fld1C (.tmp 1) rfl g1 r1) hS (Flz.refl _) (updF_self _ _ _)
    · intro f w1 hS hf
      generalize hA : putAll _ _ f = aA
      have h5 : f 2 = .pointer (some ⟨g1, 1, none⟩) := hf 2 (by decide)
      have r5 : aA.eval (.tmp 5) = .pointer (some ⟨g1, 1, none⟩) := by rw [← hA]; exact putAll_at f 5 2 slotsRc1 a0 sbRc1 (by kernel_rfl) zsz rfl h5
      exact flw_val rfl rfl (.agg (encU c.2.1).toArray) (ex_loadR 24 (.tmp 5) rfl ⟨g1, 1, none⟩ r5 (fun _ => by kernel_rfl) (encU c.2.1) (by rw [encU_len]; kernel_rfl) ((HX1.out.keepB hS).part (encU c.2.1) 1 (encC_key c))) hS (Flz.refl _) (updF_self _ _ _)
    · intro f w1 hS hf
      generalize hA : putAll _ _ f = aA
      have r1 : aA.eval (.tmp 1) = .pointer (some ⟨g1, 0, none⟩) := by rw [← hA]; exact putAll_off f 1 slotsRc1 a0 (by kernel_rfl) z1
      exact flw_val rfl rfl (.pointer (some ⟨g1, 33, none⟩)) (fld2C (.tmp 1) rfl g1 r1) hS (Flz.refl _) (updF_self _ _ _)
    · intro f w1 hS hf
      generalize hA : putAll _ _ f = aA
      have h7 : f 4 = .pointer (some ⟨g1, 33, none⟩) := hf 4 (by decide)
      have r7 : aA.eval (.tmp 7) = .pointer (some ⟨g1, 33, none⟩) := by rw [← hA]; exact putAll_at f 7 4 slotsRc1 a0 sbRc1 (by kernel_rfl) zsz rfl h7
      exact flw_val rfl rfl (.agg (encU c.2.2).toArray) (ex_loadR 24 (.tmp 7) rfl ⟨g1, 33, none⟩ r7 (fun _ => by kernel_rfl) (encU c.2.2) (by rw [encU_len]; kernel_rfl) ((HX1.out.keepB hS).part (encU c.2.2) 33 (encC_chk c))) hS (Flz.refl _) (updF_self _ _ _)
    · intro f w1 hS hf
      generalize hA : putAll _ _ f = aA
      have h4 : f 1 = .int .i64 (c.1) := hf 1 (by decide)
      have r4 : aA.eval (.tmp 4) = .int .i64 (c.1) := by rw [← hA]; exact putAll_at f 4 1 slotsRc1 a0 sbRc1 (by kernel_rfl) zsz rfl h4
      have h6 : f 3 = .agg (encU c.2.1).toArray := hf 3 (by decide)
      have r6 : aA.eval (.tmp 6) = .agg (encU c.2.1).toArray := by rw [← hA]; exact putAll_at f 6 3 slotsRc1 a0 sbRc1 (by kernel_rfl) zsz rfl h6
      have h8 : f 5 = .agg (encU c.2.2).toArray := hf 5 (by decide)
      have r8 : aA.eval (.tmp 8) = .agg (encU c.2.2).toArray := by rw [← hA]; exact putAll_at f 8 5 slotsRc1 a0 sbRc1 (by kernel_rfl) zsz rfl h8
      exact flw_val rfl rfl (aggC ((c.1, c.2.1, c.2.2))) (ex_build 37 _ rfl (encC ((c.1, c.2.1, c.2.2))).toArray [(0, .int .i64 (c.1)), (1, .agg (encU c.2.1).toArray), (2, .agg (encU c.2.2).toArray)] (by simp only [List.map_toArray, List.map_cons, List.map_nil, r4, r6, r8]) (builtR3 c.1 c.2.1 c.2.2)) hS (Flz.refl _) (updF_self _ _ _)
  intro f w1 hS hf hap
  have h0 : f 0 = .pointer (some ⟨g1, 0, none⟩) := hf 0 (by decide)
  have h1 : f 1 = .int .i64 (c.1) := hf 1 (by decide)
  have h2 : f 2 = .pointer (some ⟨g1, 1, none⟩) := hf 2 (by decide)
  have h3 : f 3 = .agg (encU c.2.1).toArray := hf 3 (by decide)
  have h4 : f 4 = .pointer (some ⟨g1, 33, none⟩) := hf 4 (by decide)
  have h5 : f 5 = .agg (encU c.2.2).toArray := hf 5 (by decide)
  have h6 : f 6 = aggC ((c.1, c.2.1, c.2.2)) := hf 6 (by decide)
  clear hf hap
  clear zsz z1
  subst ha0
  simp only [slotsRc1, putAll, h0, h1, h2, h3, h4, h5, h6, Act.put, List.setIfInBounds_toArray, List.set_cons_zero, List.set_cons_succ]
  clear h0 h1 h2 h3 h4 h5 h6
  refine tl_store rfl (by kernel_rfl) 37 (.tmp 2) (.tmp 9) rfl g2 (encC c) _ rfl rfl _ (HX2.out.keepB hS) (by rw [encC_len]; kernel_rfl) (by simp only [encC_len]) (encC_ones _) ?_
  intro w9 hp hbl hot
  refine tl_nil ?_
  have HP := Lib.hid hp
  have HF := Lib.hid ((HB.out.trans (hS.mono HB.out.size)).trans (hbl _ HGg2.out))
  clear hp hbl hot hS
  go_wp2_with fail
  (try simp only [Exit.inBlock, Exit.then])
  refine bodyPost_ret (v := .agg (encC c).toArray) ?_ rfl ⟨⟨_, rfl, rfl⟩, HF.out⟩
  exact results_cell_row rfl _ _ g2 37 _ (0, 0) _ rfl HP.out Tryd.underlying37 rfl (by rw [List.size_toArray, encC_len]; kernel_rfl)
theorem cellOf_any (c : Ce) (w : World) : Calls Tryd.prog 17 #[aggC c] w fun e w' => (∃ v, e = .returned v ∧ v = aggC c) ∧ Below w.heap.size w w' := cellOf_b c w w (Below.refl _ _)
def waitRq1 (i : Nat) : List Nat := ([[], [0], [1], [2], [3], [3], [3], [3, 6], [7], [8], [8, 9], [8], [8, 11], [8, 12], [8, 10, 13], [8, 14], [15]] : List (List Nat)).getD i []
def slotsRq1 : List (Nat × Nat) := [(3, 0), (4, 1), (5, 2), (6, 3), (7, 4), (8, 5), (9, 6), (10, 7), (11, 8), (12, 9), (13, 10), (14, 11), (15, 12), (16, 13), (17, 14), (18, 15), (2, 16)]
theorem sbRq1 : slotsB slotsRq1 = true := by kernel_rfl
theorem chkRq1 : flwB slotsRq1 waitRq1 17 (regOf Tryd.f18.body 1) = true := by kernel_rfl
def waitRq2 (i : Nat) : List Nat := ([[], [0], [1], [2], [3], [3], [3], [3, 6], [7], [8], [8, 9], [8], [8, 11], [8, 12], [8, 10, 13], [8, 14], [15]] : List (List Nat)).getD i []
def slotsRq2 : List (Nat × Nat) := [(3, 0), (4, 1), (5, 2), (6, 3), (7, 4), (8, 5), (9, 6), (10, 7), (11, 8), (12, 9), (13, 10), (14, 11), (15, 12), (16, 13), (17, 14), (18, 15), (2, 16)]
theorem sbRq2 : slotsB slotsRq2 = true := by kernel_rfl
theorem chkRq2 : flwB slotsRq2 waitRq2 17 (regOf Tryd.f18.body 1) = true := by kernel_rfl
def waitRq3 (i : Nat) : List Nat := ([[], [0], [1], [2], [3], [3, 4], [3, 5], [3, 6], [7], [8], [8, 9], [8], [8, 11], [8, 12], [8, 10, 13], [8, 14], [15]] : List (List Nat)).getD i []
def slotsRq3 : List (Nat × Nat) := [(3, 0), (4, 1), (5, 2), (6, 3), (7, 4), (8, 5), (9, 6), (10, 7), (11, 8), (12, 9), (13, 10), (14, 11), (15, 12), (16, 13), (17, 14), (18, 15), (2, 16)]
theorem sbRq3 : slotsB slotsRq3 = true := by kernel_rfl
theorem chkRq3 : flwB slotsRq3 waitRq3 17 (regOf Tryd.f18.body 1) = true := by kernel_rfl
def waitRq4 (i : Nat) : List Nat := ([[], [0], [1], [2], [3], [3, 4], [3, 5], [3, 6], [7], [8], [8, 9], [8], [8, 11], [8, 12], [8, 10, 13], [8, 14], [15]] : List (List Nat)).getD i []
def slotsRq4 : List (Nat × Nat) := [(3, 0), (4, 1), (5, 2), (6, 3), (7, 4), (8, 5), (9, 6), (10, 7), (11, 8), (12, 9), (13, 10), (14, 11), (15, 12), (16, 13), (17, 14), (18, 15), (2, 16)]
theorem sbRq4 : slotsB slotsRq4 = true := by kernel_rfl
theorem chkRq4 : flwB slotsRq4 waitRq4 17 (regOf Tryd.f18.body 1) = true := by kernel_rfl
def waitRq5 (i : Nat) : List Nat := ([[], [0], [1], [2], [3], [3, 4], [3, 5], [3, 6], [7], [8], [8], [8], [8], [8], [8], [8, 14], [15]] : List (List Nat)).getD i []
def slotsRq5 : List (Nat × Nat) := [(3, 0), (4, 1), (5, 2), (6, 3), (7, 4), (8, 5), (9, 6), (10, 7), (11, 8), (12, 9), (13, 10), (14, 11), (15, 12), (16, 13), (17, 14), (18, 15), (2, 16)]
theorem sbRq5 : slotsB slotsRq5 = true := by kernel_rfl
theorem chkRq5 : flwB slotsRq5 waitRq5 17 (regOf Tryd.f18.body 1) = true := by kernel_rfl
set_option maxHeartbeats 4000000 in
set_option maxRecDepth 100000 in
theorem rpure_b (c : Ce) (w w0 : World) (hB : Below w.heap.size w w0) : Calls Tryd.prog 18 #[aggC c] w0 fun e w' => (∃ v, e = .returned v ∧ v = .bool (isPure c)) ∧ Below w.heap.size w w' := by
  go_enter Tryd.func18, Tryd.ntmps18
  have HB := Lib.hid hB
  clear hB
  go_upto_region 0 with fail
  refine wp_region_lit ?_
  try simp only [Act.put, List.setIfInBounds_toArray, List.set_cons_zero, List.set_cons_succ]
  refine lp_step rfl (fun K hK => wp_box_row 37 (.tmp 0) rfl (aggC c) rfl (hK _ _ ?_))
  try simp only [Act.put, List.setIfInBounds_toArray, List.set_cons_zero, List.set_cons_succ]
  show wpList _ _ _ _ _ (w0.alloc (.cells (encC c).toArray 37))
  have HST : Hid (Below w0.heap.size w0 (w0.alloc (.cells (encC c).toArray 37))) := Lib.hid ((Below.refl _ _).alloc (Nat.le_refl _) _)
  have HX1 : Hid (Has (w0.alloc (.cells (encC c).toArray 37)) w0.heap.size 37 (encC c)) := Lib.hid (Has.made' _ _ _ _ rfl)
  have HGg1 : Hid (w.heap.size ≤ w0.heap.size) := Lib.hid HB.out.size
  replace HB := Lib.hid (HB.out.trans (HST.out.mono HB.out.size))
  clear HST
  generalize w0.alloc (.cells (encC c).toArray 37) = w1 at *
  generalize w0.heap.size = g1 at *
  refine lp_pure rfl (ex_assign _ rfl rfl) ?_
  try simp only [Act.put, List.setIfInBounds_toArray, List.set_cons_zero, List.set_cons_succ]
  refine wpList_nil ?_
  go_upto_region 1 with fail
  have HST : Hid (Below w1.heap.size w1 w1.drew) := Lib.hid (Below.refl _ _).drew
  replace HX1 := Lib.hid (HX1.out.keepB HST.out)
  replace HB := Lib.hid (HB.out.trans (HST.out.mono HB.out.size))
  clear HST
  by_cases k1 : c.1 = 1
  · have e1 : (c.1 == (1 : Int)) = true := by simp [k1]
    by_cases k3 : c.2.2 = chkS c.2.1
    · have e3 : decide (c.2.2 = chkS c.2.1) = true := by simp [k3]
      have hp : isPure c = true := by simp [isPure, k1, k3]
      refine wp_act (fun a0 ha0 => ?_)
      have zsz : a0.tmps.size = 19 := by rw [ha0]; rfl
      have z1 : a0.eval (.tmp 1) = .pointer (some ⟨g1, 0, none⟩) := by rw [ha0]; rfl
      refine wp_region_flw (E := Flz) [] slotsRq1 waitRq1 [Fct.val Flz 0 (.pointer (some ⟨g1, 0, none⟩)), Fct.val Flz 1 (.int .i64 (c.1)), Fct.val Flz 2 (.bool true), Fct.val Flz 3 (.bool true), Fct.val Flz 4 (undef), Fct.val Flz 5 (undef), Fct.val Flz 6 (undef), Fct.val Flz 7 (.bool true), Fct.val Flz 8 (.bool true), Fct.val Flz 9 (.pointer (some ⟨g1, 33, none⟩)), Fct.val Flz 10 (.agg (encU c.2.2).toArray), Fct.val Flz 11 (.pointer (some ⟨g1, 1, none⟩)), Fct.val Flz 12 (.agg (encU c.2.1).toArray), Fct.val Flz 13 (.agg (encU (chkS c.2.1)).toArray), Fct.val Flz 14 (.bool true), Fct.val Flz 15 (.bool true), Fct.val Flz 16 (.bool true)] (fun w' => Below w1.drew.heap.size w1.drew w') _ 17 0 chkRq1 (by kernel_rfl) rfl (by kernel_rfl) (by kernel_rfl) (by decide) (Below.refl _ _) ?_ ?_
      · refine lt_s (lt_s (lt_s (lt_s (lt_s (lt_s (lt_s (lt_s (lt_s (lt_s (lt_s (lt_s (lt_s (lt_s (lt_s (lt_s (lt_s (lt_0) ?_) ?_) ?_) ?_) ?_) ?_) ?_) ?_) ?_) ?_) ?_) ?_) ?_) ?_) ?_) ?_) ?_
        · intro f w1 hS hf
          generalize hA : putAll _ _ f = aA
          have r1 : aA.eval (.tmp 1) = .pointer (some ⟨g1, 0, none⟩) := by rw [← hA]; exact putAll_off f 1 slotsRq1 a0 (by kernel_rfl) z1
          exact flw_val rfl rfl (.pointer (some ⟨g1, 0, none⟩)) (fld0R (.tmp 1) rfl g1 r1) hS (Flz.refl _) (updF_self _ _ _)
        · intro f w1 hS hf
          generalize hA : putAll _ _ f = aA
          have h3 : f 0 = .pointer (some ⟨g1, 0, none⟩) := hf 0 (by decide)
          have r3 : aA.eval (.tmp 3) = .pointer (some ⟨g1, 0, none⟩) := by rw [← hA]; exact putAll_at f 3 0 slotsRq1 a0 sbRq1 (by kernel_rfl) zsz rfl h3
          exact flw_val rfl rfl (.int .i64 (c.1)) (ex_load1 2 (.tmp 3) rfl ⟨g1, 0, none⟩ r3 (fun _ => by kernel_rfl) ((HX1.out.keepB hS).cellv (encC_0 c))) hS (Flz.refl _) (updF_self _ _ _)
        · intro f w1 hS hf
          generalize hA : putAll _ _ f = aA
          have h4 : f 1 = .int .i64 (c.1) := hf 1 (by decide)
          have r4 : aA.eval (.tmp 4) = .int .i64 (c.1) := by rw [← hA]; exact putAll_at f 4 1 slotsRq1 a0 sbRq1 (by kernel_rfl) zsz rfl h4
          exact flw_val rfl rfl (.bool true) (Eq.trans (ex_int .eql _ _ (.tmp 4) _ rfl .i64 c.1 1 r4 rfl (.bool (c.1 == (1 : Int))) (fun _ => rfl)) (by rw [e1])) hS (Flz.refl _) (updF_self _ _ _)
        · intro f w1 hS hf
          generalize hA : putAll _ _ f = aA
          have h5 : f 2 = .bool true := hf 2 (by decide)
          have r5 : aA.eval (.tmp 5) = .bool true := by rw [← hA]; exact putAll_at f 5 2 slotsRq1 a0 sbRq1 (by kernel_rfl) zsz rfl h5
          exact flw_val rfl rfl (.bool true) (ex_move (.tmp 5) rfl r5) hS (Flz.refl _) (updF_self _ _ _)
        · intro f w1 hS hf
          generalize hA : putAll _ _ f = aA
          have g6 : f 3 = .bool true := hf 3 (by decide)
          have t6 : aA.tmps[6]? = some (.bool true) := by rw [← hA]; exact putAll_g f 6 3 slotsRq1 a0 sbRq1 (by kernel_rfl) zsz rfl g6
          exact flw_skip rfl ((wanted_of rfl 6 rfl t6).trans rfl) hS (Flz.refl _) (updF_self _ _ _)
        · intro f w1 hS hf
          generalize hA : putAll _ _ f = aA
          have g6 : f 3 = .bool true := hf 3 (by decide)
          have t6 : aA.tmps[6]? = some (.bool true) := by rw [← hA]; exact putAll_g f 6 3 slotsRq1 a0 sbRq1 (by kernel_rfl) zsz rfl g6
          exact flw_skip rfl ((wanted_of rfl 6 rfl t6).trans rfl) hS (Flz.refl _) (updF_self _ _ _)
        · intro f w1 hS hf
          generalize hA : putAll _ _ f = aA
          have g6 : f 3 = .bool true := hf 3 (by decide)
          have t6 : aA.tmps[6]? = some (.bool true) := by rw [← hA]; exact putAll_g f 6 3 slotsRq1 a0 sbRq1 (by kernel_rfl) zsz rfl g6
          exact flw_skip rfl ((wanted_of rfl 6 rfl t6).trans rfl) hS (Flz.refl _) (updF_self _ _ _)
        · intro f w1 hS hf
          generalize hA : putAll _ _ f = aA
          have h6 : f 3 = .bool true := hf 3 (by decide)
          have r6 : aA.eval (.tmp 6) = .bool true := by rw [← hA]; exact putAll_at f 6 3 slotsRq1 a0 sbRq1 (by kernel_rfl) zsz rfl h6
          exact flw_val rfl rfl (.bool true) (ex_pick (.tmp 6) _ (.tmp 9) rfl true r6 ((if_pos rfl).trans rfl)) hS (Flz.refl _) (updF_self _ _ _)
        · intro f w1 hS hf
          generalize hA : putAll _ _ f = aA
          have h10 : f 7 = .bool true := hf 7 (by decide)
          have r10 : aA.eval (.tmp 10) = .bool true := by rw [← hA]; exact putAll_at f 10 7 slotsRq1 a0 sbRq1 (by kernel_rfl) zsz rfl h10
          exact flw_val rfl rfl (.bool true) (ex_move (.tmp 10) rfl r10) hS (Flz.refl _) (updF_self _ _ _)
        · intro f w1 hS hf
          generalize hA : putAll _ _ f = aA
          have g11 : f 8 = .bool true := hf 8 (by decide)
          have t11 : aA.tmps[11]? = some (.bool true) := by rw [← hA]; exact putAll_g f 11 8 slotsRq1 a0 sbRq1 (by kernel_rfl) zsz rfl g11
          have r1 : aA.eval (.tmp 1) = .pointer (some ⟨g1, 0, none⟩) := by rw [← hA]; exact putAll_off f 1 slotsRq1 a0 (by kernel_rfl) z1
          exact flw_val rfl ((wanted_of rfl 11 rfl t11).trans rfl) (.pointer (some ⟨g1, 33, none⟩)) (fld2R (.tmp 1) rfl g1 r1) hS (Flz.refl _) (updF_self _ _ _)
        · intro f w1 hS hf
          generalize hA : putAll _ _ f = aA
          have g11 : f 8 = .bool true := hf 8 (by decide)
          have t11 : aA.tmps[11]? = some (.bool true) := by rw [← hA]; exact putAll_g f 11 8 slotsRq1 a0 sbRq1 (by kernel_rfl) zsz rfl g11
          have h12 : f 9 = .pointer (some ⟨g1, 33, none⟩) := hf 9 (by decide)
          have r12 : aA.eval (.tmp 12) = .pointer (some ⟨g1, 33, none⟩) := by rw [← hA]; exact putAll_at f 12 9 slotsRq1 a0 sbRq1 (by kernel_rfl) zsz rfl h12
          exact flw_val rfl ((wanted_of rfl 11 rfl t11).trans rfl) (.agg (encU c.2.2).toArray) (ex_loadR 35 (.tmp 12) rfl ⟨g1, 33, none⟩ r12 (fun _ => by kernel_rfl) (encU c.2.2) (by rw [encU_len]; kernel_rfl) ((HX1.out.keepB hS).part (encU c.2.2) 33 (encC_chk c))) hS (Flz.refl _) (updF_self _ _ _)
        · intro f w1 hS hf
          generalize hA : putAll _ _ f = aA
          have g11 : f 8 = .bool true := hf 8 (by decide)
          have t11 : aA.tmps[11]? = some (.bool true) := by rw [← hA]; exact putAll_g f 11 8 slotsRq1 a0 sbRq1 (by kernel_rfl) zsz rfl g11
          have r1 : aA.eval (.tmp 1) = .pointer (some ⟨g1, 0, none⟩) := by rw [← hA]; exact putAll_off f 1 slotsRq1 a0 (by kernel_rfl) z1
          exact flw_val rfl ((wanted_of rfl 11 rfl t11).trans rfl) (.pointer (some ⟨g1, 1, none⟩)) (fld1R (.tmp 1) rfl g1 r1) hS (Flz.refl _) (updF_self _ _ _)
        · intro f w1 hS hf
          generalize hA : putAll _ _ f = aA
          have g11 : f 8 = .bool true := hf 8 (by decide)
          have t11 : aA.tmps[11]? = some (.bool true) := by rw [← hA]; exact putAll_g f 11 8 slotsRq1 a0 sbRq1 (by kernel_rfl) zsz rfl g11
          have h14 : f 11 = .pointer (some ⟨g1, 1, none⟩) := hf 11 (by decide)
          have r14 : aA.eval (.tmp 14) = .pointer (some ⟨g1, 1, none⟩) := by rw [← hA]; exact putAll_at f 14 11 slotsRq1 a0 sbRq1 (by kernel_rfl) zsz rfl h14
          exact flw_val rfl ((wanted_of rfl 11 rfl t11).trans rfl) (.agg (encU c.2.1).toArray) (ex_loadR 35 (.tmp 14) rfl ⟨g1, 1, none⟩ r14 (fun _ => by kernel_rfl) (encU c.2.1) (by rw [encU_len]; kernel_rfl) ((HX1.out.keepB hS).part (encU c.2.1) 1 (encC_key c))) hS (Flz.refl _) (updF_self _ _ _)
        · intro f w1 hS hf
          generalize hA : putAll _ _ f = aA
          have g11 : f 8 = .bool true := hf 8 (by decide)
          have t11 : aA.tmps[11]? = some (.bool true) := by rw [← hA]; exact putAll_g f 11 8 slotsRq1 a0 sbRq1 (by kernel_rfl) zsz rfl g11
          have h15 : f 12 = .agg (encU c.2.1).toArray := hf 12 (by decide)
          have r15 : aA.eval (.tmp 15) = .agg (encU c.2.1).toArray := by rw [← hA]; exact putAll_at f 15 12 slotsRq1 a0 sbRq1 (by kernel_rfl) zsz rfl h15
          exact flw_call rfl ((wanted_of rfl 11 rfl t11).trans rfl) 19 #[(.tmp 15)] _ rfl #[.agg (encU c.2.1).toArray] (by simp only [List.map_toArray, List.map_cons, List.map_nil, r15]) (fun w => by kernel_rfl) (fun v _ => v = .agg (encU (chkS c.2.1)).toArray) (rchk_any c.2.1 w1) (fun v w' hr hb => ⟨hS.trans (hb.mono hS.size), Flz.of hb, (updF_self _ _ _).trans hr⟩)
        · intro f w1 hS hf
          generalize hA : putAll _ _ f = aA
          have g11 : f 8 = .bool true := hf 8 (by decide)
          have t11 : aA.tmps[11]? = some (.bool true) := by rw [← hA]; exact putAll_g f 11 8 slotsRq1 a0 sbRq1 (by kernel_rfl) zsz rfl g11
          have h13 : f 10 = .agg (encU c.2.2).toArray := hf 10 (by decide)
          have r13 : aA.eval (.tmp 13) = .agg (encU c.2.2).toArray := by rw [← hA]; exact putAll_at f 13 10 slotsRq1 a0 sbRq1 (by kernel_rfl) zsz rfl h13
          have h16 : f 13 = .agg (encU (chkS c.2.1)).toArray := hf 13 (by decide)
          have r16 : aA.eval (.tmp 16) = .agg (encU (chkS c.2.1)).toArray := by rw [← hA]; exact putAll_at f 16 13 slotsRq1 a0 sbRq1 (by kernel_rfl) zsz rfl h16
          exact flw_val rfl ((wanted_of rfl 11 rfl t11).trans rfl) (.bool true) (Eq.trans (eql_su 35 (.tmp 13) (.tmp 16) _ rfl c.2.2 (chkS c.2.1) r13 r16 (by kernel_rfl) (by kernel_rfl)) (by rw [e3])) hS (Flz.refl _) (updF_self _ _ _)
        · intro f w1 hS hf
          generalize hA : putAll _ _ f = aA
          have h11 : f 8 = .bool true := hf 8 (by decide)
          have r11 : aA.eval (.tmp 11) = .bool true := by rw [← hA]; exact putAll_at f 11 8 slotsRq1 a0 sbRq1 (by kernel_rfl) zsz rfl h11
          have h17 : f 14 = .bool true := hf 14 (by decide)
          have r17 : aA.eval (.tmp 17) = .bool true := by rw [← hA]; exact putAll_at f 17 14 slotsRq1 a0 sbRq1 (by kernel_rfl) zsz rfl h17
          exact flw_val rfl rfl (.bool true) (ex_pick (.tmp 11) (.tmp 17) _ rfl true r11 ((if_pos rfl).trans r17)) hS (Flz.refl _) (updF_self _ _ _)
        · intro f w1 hS hf
          generalize hA : putAll _ _ f = aA
          have h18 : f 15 = .bool true := hf 15 (by decide)
          have r18 : aA.eval (.tmp 18) = .bool true := by rw [← hA]; exact putAll_at f 18 15 slotsRq1 a0 sbRq1 (by kernel_rfl) zsz rfl h18
          exact flw_val rfl rfl (.bool true) (ex_assign (.tmp 18) rfl r18) hS (Flz.refl _) (updF_self _ _ _)
      intro f w3 hS hf hap
      have h0 : f 0 = .pointer (some ⟨g1, 0, none⟩) := hf 0 (by decide)
      have h1 : f 1 = .int .i64 (c.1) := hf 1 (by decide)
      have h2 : f 2 = .bool true := hf 2 (by decide)
      have h3 : f 3 = .bool true := hf 3 (by decide)
      have h4 : f 4 = undef := hf 4 (by decide)
      have h5 : f 5 = undef := hf 5 (by decide)
      have h6 : f 6 = undef := hf 6 (by decide)
      have h7 : f 7 = .bool true := hf 7 (by decide)
      have h8 : f 8 = .bool true := hf 8 (by decide)
      have h9 : f 9 = .pointer (some ⟨g1, 33, none⟩) := hf 9 (by decide)
      have h10 : f 10 = .agg (encU c.2.2).toArray := hf 10 (by decide)
      have h11 : f 11 = .pointer (some ⟨g1, 1, none⟩) := hf 11 (by decide)
      have h12 : f 12 = .agg (encU c.2.1).toArray := hf 12 (by decide)
      have h13 : f 13 = .agg (encU (chkS c.2.1)).toArray := hf 13 (by decide)
      have h14 : f 14 = .bool true := hf 14 (by decide)
      have h15 : f 15 = .bool true := hf 15 (by decide)
      have h16 : f 16 = .bool true := hf 16 (by decide)
      clear hf hap
      clear zsz z1
      subst ha0
      simp only [slotsRq1, putAll, h0, h1, h2, h3, h4, h5, h6, h7, h8, h9, h10, h11, h12, h13, h14, h15, h16, Act.put, List.setIfInBounds_toArray, List.set_cons_zero, List.set_cons_succ]
      clear h0 h1 h2 h3 h4 h5 h6 h7 h8 h9 h10 h11 h12 h13 h14 h15 h16
      refine tl_nilN ?_
      have HF := Lib.hid (HB.out.trans (hS.mono HB.out.size))
      clear hS
      go_wp2_with fail
      go_ret
      exact ⟨⟨_, rfl, congrArg Value.bool hp.symm⟩, HF.out⟩
    · have e3 : decide (c.2.2 = chkS c.2.1) = false := by simp [k3]
      have hp : isPure c = false := by simp [isPure, k3]
      refine wp_act (fun a0 ha0 => ?_)
      have zsz : a0.tmps.size = 19 := by rw [ha0]; rfl
      have z1 : a0.eval (.tmp 1) = .pointer (some ⟨g1, 0, none⟩) := by rw [ha0]; rfl
      refine wp_region_flw (E := Flz) [] slotsRq2 waitRq2 [Fct.val Flz 0 (.pointer (some ⟨g1, 0, none⟩)), Fct.val Flz 1 (.int .i64 (c.1)), Fct.val Flz 2 (.bool true), Fct.val Flz 3 (.bool true), Fct.val Flz 4 (undef), Fct.val Flz 5 (undef), Fct.val Flz 6 (undef), Fct.val Flz 7 (.bool true), Fct.val Flz 8 (.bool true), Fct.val Flz 9 (.pointer (some ⟨g1, 33, none⟩)), Fct.val Flz 10 (.agg (encU c.2.2).toArray), Fct.val Flz 11 (.pointer (some ⟨g1, 1, none⟩)), Fct.val Flz 12 (.agg (encU c.2.1).toArray), Fct.val Flz 13 (.agg (encU (chkS c.2.1)).toArray), Fct.val Flz 14 (.bool false), Fct.val Flz 15 (.bool false), Fct.val Flz 16 (.bool false)] (fun w' => Below w1.drew.heap.size w1.drew w') _ 17 0 chkRq2 (by kernel_rfl) rfl (by kernel_rfl) (by kernel_rfl) (by decide) (Below.refl _ _) ?_ ?_
      · refine lt_s (lt_s (lt_s (lt_s (lt_s (lt_s (lt_s (lt_s (lt_s (lt_s (lt_s (lt_s (lt_s (lt_s (lt_s (lt_s (lt_s (lt_0) ?_) ?_) ?_) ?_) ?_) ?_) ?_) ?_) ?_) ?_) ?_) ?_) ?_) ?_) ?_) ?_) ?_
        · intro f w1 hS hf
          generalize hA : putAll _ _ f = aA
          have r1 : aA.eval (.tmp 1) = .pointer (some ⟨g1, 0, none⟩) := by rw [← hA]; exact putAll_off f 1 slotsRq2 a0 (by kernel_rfl) z1
          exact flw_val rfl rfl (.pointer (some ⟨g1, 0, none⟩)) (fld0R (.tmp 1) rfl g1 r1) hS (Flz.refl _) (updF_self _ _ _)
        · intro f w1 hS hf
          generalize hA : putAll _ _ f = aA
          have h3 : f 0 = .pointer (some ⟨g1, 0, none⟩) := hf 0 (by decide)
          have r3 : aA.eval (.tmp 3) = .pointer (some ⟨g1, 0, none⟩) := by rw [← hA]; exact putAll_at f 3 0 slotsRq2 a0 sbRq2 (by kernel_rfl) zsz rfl h3
          exact flw_val rfl rfl (.int .i64 (c.1)) (ex_load1 2 (.tmp 3) rfl ⟨g1, 0, none⟩ r3 (fun _ => by kernel_rfl) ((HX1.out.keepB hS).cellv (encC_0 c))) hS (Flz.refl _) (updF_self _ _ _)
        · intro f w1 hS hf
          generalize hA : putAll _ _ f = aA
          have h4 : f 1 = .int .i64 (c.1) := hf 1 (by decide)
          have r4 : aA.eval (.tmp 4) = .int .i64 (c.1) := by rw [← hA]; exact putAll_at f 4 1 slotsRq2 a0 sbRq2 (by kernel_rfl) zsz rfl h4
          exact flw_val rfl rfl (.bool true) (Eq.trans (ex_int .eql _ _ (.tmp 4) _ rfl .i64 c.1 1 r4 rfl (.bool (c.1 == (1 : Int))) (fun _ => rfl)) (by rw [e1])) hS (Flz.refl _) (updF_self _ _ _)
        · intro f w1 hS hf
          generalize hA : putAll _ _ f = aA
          have h5 : f 2 = .bool true := hf 2 (by decide)
          have r5 : aA.eval (.tmp 5) = .bool true := by rw [← hA]; exact putAll_at f 5 2 slotsRq2 a0 sbRq2 (by kernel_rfl) zsz rfl h5
          exact flw_val rfl rfl (.bool true) (ex_move (.tmp 5) rfl r5) hS (Flz.refl _) (updF_self _ _ _)
        · intro f w1 hS hf
          generalize hA : putAll _ _ f = aA
          have g6 : f 3 = .bool true := hf 3 (by decide)
          have t6 : aA.tmps[6]? = some (.bool true) := by rw [← hA]; exact putAll_g f 6 3 slotsRq2 a0 sbRq2 (by kernel_rfl) zsz rfl g6
          exact flw_skip rfl ((wanted_of rfl 6 rfl t6).trans rfl) hS (Flz.refl _) (updF_self _ _ _)
        · intro f w1 hS hf
          generalize hA : putAll _ _ f = aA
          have g6 : f 3 = .bool true := hf 3 (by decide)
          have t6 : aA.tmps[6]? = some (.bool true) := by rw [← hA]; exact putAll_g f 6 3 slotsRq2 a0 sbRq2 (by kernel_rfl) zsz rfl g6
          exact flw_skip rfl ((wanted_of rfl 6 rfl t6).trans rfl) hS (Flz.refl _) (updF_self _ _ _)
        · intro f w1 hS hf
          generalize hA : putAll _ _ f = aA
          have g6 : f 3 = .bool true := hf 3 (by decide)
          have t6 : aA.tmps[6]? = some (.bool true) := by rw [← hA]; exact putAll_g f 6 3 slotsRq2 a0 sbRq2 (by kernel_rfl) zsz rfl g6
          exact flw_skip rfl ((wanted_of rfl 6 rfl t6).trans rfl) hS (Flz.refl _) (updF_self _ _ _)
        · intro f w1 hS hf
          generalize hA : putAll _ _ f = aA
          have h6 : f 3 = .bool true := hf 3 (by decide)
          have r6 : aA.eval (.tmp 6) = .bool true := by rw [← hA]; exact putAll_at f 6 3 slotsRq2 a0 sbRq2 (by kernel_rfl) zsz rfl h6
          exact flw_val rfl rfl (.bool true) (ex_pick (.tmp 6) _ (.tmp 9) rfl true r6 ((if_pos rfl).trans rfl)) hS (Flz.refl _) (updF_self _ _ _)
        · intro f w1 hS hf
          generalize hA : putAll _ _ f = aA
          have h10 : f 7 = .bool true := hf 7 (by decide)
          have r10 : aA.eval (.tmp 10) = .bool true := by rw [← hA]; exact putAll_at f 10 7 slotsRq2 a0 sbRq2 (by kernel_rfl) zsz rfl h10
          exact flw_val rfl rfl (.bool true) (ex_move (.tmp 10) rfl r10) hS (Flz.refl _) (updF_self _ _ _)
        · intro f w1 hS hf
          generalize hA : putAll _ _ f = aA
          have g11 : f 8 = .bool true := hf 8 (by decide)
          have t11 : aA.tmps[11]? = some (.bool true) := by rw [← hA]; exact putAll_g f 11 8 slotsRq2 a0 sbRq2 (by kernel_rfl) zsz rfl g11
          have r1 : aA.eval (.tmp 1) = .pointer (some ⟨g1, 0, none⟩) := by rw [← hA]; exact putAll_off f 1 slotsRq2 a0 (by kernel_rfl) z1
          exact flw_val rfl ((wanted_of rfl 11 rfl t11).trans rfl) (.pointer (some ⟨g1, 33, none⟩)) (fld2R (.tmp 1) rfl g1 r1) hS (Flz.refl _) (updF_self _ _ _)
        · intro f w1 hS hf
          generalize hA : putAll _ _ f = aA
          have g11 : f 8 = .bool true := hf 8 (by decide)
          have t11 : aA.tmps[11]? = some (.bool true) := by rw [← hA]; exact putAll_g f 11 8 slotsRq2 a0 sbRq2 (by kernel_rfl) zsz rfl g11
          have h12 : f 9 = .pointer (some ⟨g1, 33, none⟩) := hf 9 (by decide)
          have r12 : aA.eval (.tmp 12) = .pointer (some ⟨g1, 33, none⟩) := by rw [← hA]; exact putAll_at f 12 9 slotsRq2 a0 sbRq2 (by kernel_rfl) zsz rfl h12
          exact flw_val rfl ((wanted_of rfl 11 rfl t11).trans rfl) (.agg (encU c.2.2).toArray) (ex_loadR 35 (.tmp 12) rfl ⟨g1, 33, none⟩ r12 (fun _ => by kernel_rfl) (encU c.2.2) (by rw [encU_len]; kernel_rfl) ((HX1.out.keepB hS).part (encU c.2.2) 33 (encC_chk c))) hS (Flz.refl _) (updF_self _ _ _)
        · intro f w1 hS hf
          generalize hA : putAll _ _ f = aA
          have g11 : f 8 = .bool true := hf 8 (by decide)
          have t11 : aA.tmps[11]? = some (.bool true) := by rw [← hA]; exact putAll_g f 11 8 slotsRq2 a0 sbRq2 (by kernel_rfl) zsz rfl g11
          have r1 : aA.eval (.tmp 1) = .pointer (some ⟨g1, 0, none⟩) := by rw [← hA]; exact putAll_off f 1 slotsRq2 a0 (by kernel_rfl) z1
          exact flw_val rfl ((wanted_of rfl 11 rfl t11).trans rfl) (.pointer (some ⟨g1, 1, none⟩)) (fld1R (.tmp 1) rfl g1 r1) hS (Flz.refl _) (updF_self _ _ _)
        · intro f w1 hS hf
          generalize hA : putAll _ _ f = aA
          have g11 : f 8 = .bool true := hf 8 (by decide)
          have t11 : aA.tmps[11]? = some (.bool true) := by rw [← hA]; exact putAll_g f 11 8 slotsRq2 a0 sbRq2 (by kernel_rfl) zsz rfl g11
          have h14 : f 11 = .pointer (some ⟨g1, 1, none⟩) := hf 11 (by decide)
          have r14 : aA.eval (.tmp 14) = .pointer (some ⟨g1, 1, none⟩) := by rw [← hA]; exact putAll_at f 14 11 slotsRq2 a0 sbRq2 (by kernel_rfl) zsz rfl h14
          exact flw_val rfl ((wanted_of rfl 11 rfl t11).trans rfl) (.agg (encU c.2.1).toArray) (ex_loadR 35 (.tmp 14) rfl ⟨g1, 1, none⟩ r14 (fun _ => by kernel_rfl) (encU c.2.1) (by rw [encU_len]; kernel_rfl) ((HX1.out.keepB hS).part (encU c.2.1) 1 (encC_key c))) hS (Flz.refl _) (updF_self _ _ _)
        · intro f w1 hS hf
          generalize hA : putAll _ _ f = aA
          have g11 : f 8 = .bool true := hf 8 (by decide)
          have t11 : aA.tmps[11]? = some (.bool true) := by rw [← hA]; exact putAll_g f 11 8 slotsRq2 a0 sbRq2 (by kernel_rfl) zsz rfl g11
          have h15 : f 12 = .agg (encU c.2.1).toArray := hf 12 (by decide)
          have r15 : aA.eval (.tmp 15) = .agg (encU c.2.1).toArray := by rw [← hA]; exact putAll_at f 15 12 slotsRq2 a0 sbRq2 (by kernel_rfl) zsz rfl h15
          exact flw_call rfl ((wanted_of rfl 11 rfl t11).trans rfl) 19 #[(.tmp 15)] _ rfl #[.agg (encU c.2.1).toArray] (by simp only [List.map_toArray, List.map_cons, List.map_nil, r15]) (fun w => by kernel_rfl) (fun v _ => v = .agg (encU (chkS c.2.1)).toArray) (rchk_any c.2.1 w1) (fun v w' hr hb => ⟨hS.trans (hb.mono hS.size), Flz.of hb, (updF_self _ _ _).trans hr⟩)
        · intro f w1 hS hf
          generalize hA : putAll _ _ f = aA
          have g11 : f 8 = .bool true := hf 8 (by decide)
          have t11 : aA.tmps[11]? = some (.bool true) := by rw [← hA]; exact putAll_g f 11 8 slotsRq2 a0 sbRq2 (by kernel_rfl) zsz rfl g11
          have h13 : f 10 = .agg (encU c.2.2).toArray := hf 10 (by decide)
          have r13 : aA.eval (.tmp 13) = .agg (encU c.2.2).toArray := by rw [← hA]; exact putAll_at f 13 10 slotsRq2 a0 sbRq2 (by kernel_rfl) zsz rfl h13
          have h16 : f 13 = .agg (encU (chkS c.2.1)).toArray := hf 13 (by decide)
          have r16 : aA.eval (.tmp 16) = .agg (encU (chkS c.2.1)).toArray := by rw [← hA]; exact putAll_at f 16 13 slotsRq2 a0 sbRq2 (by kernel_rfl) zsz rfl h16
          exact flw_val rfl ((wanted_of rfl 11 rfl t11).trans rfl) (.bool false) (Eq.trans (eql_su 35 (.tmp 13) (.tmp 16) _ rfl c.2.2 (chkS c.2.1) r13 r16 (by kernel_rfl) (by kernel_rfl)) (by rw [e3])) hS (Flz.refl _) (updF_self _ _ _)
        · intro f w1 hS hf
          generalize hA : putAll _ _ f = aA
          have h11 : f 8 = .bool true := hf 8 (by decide)
          have r11 : aA.eval (.tmp 11) = .bool true := by rw [← hA]; exact putAll_at f 11 8 slotsRq2 a0 sbRq2 (by kernel_rfl) zsz rfl h11
          have h17 : f 14 = .bool false := hf 14 (by decide)
          have r17 : aA.eval (.tmp 17) = .bool false := by rw [← hA]; exact putAll_at f 17 14 slotsRq2 a0 sbRq2 (by kernel_rfl) zsz rfl h17
          exact flw_val rfl rfl (.bool false) (ex_pick (.tmp 11) (.tmp 17) _ rfl true r11 ((if_pos rfl).trans r17)) hS (Flz.refl _) (updF_self _ _ _)
        · intro f w1 hS hf
          generalize hA : putAll _ _ f = aA
          have h18 : f 15 = .bool false := hf 15 (by decide)
          have r18 : aA.eval (.tmp 18) = .bool false := by rw [← hA]; exact putAll_at f 18 15 slotsRq2 a0 sbRq2 (by kernel_rfl) zsz rfl h18
          exact flw_val rfl rfl (.bool false) (ex_assign (.tmp 18) rfl r18) hS (Flz.refl _) (updF_self _ _ _)
      intro f w3 hS hf hap
      have h0 : f 0 = .pointer (some ⟨g1, 0, none⟩) := hf 0 (by decide)
      have h1 : f 1 = .int .i64 (c.1) := hf 1 (by decide)
      have h2 : f 2 = .bool true := hf 2 (by decide)
      have h3 : f 3 = .bool true := hf 3 (by decide)
      have h4 : f 4 = undef := hf 4 (by decide)
      have h5 : f 5 = undef := hf 5 (by decide)
      have h6 : f 6 = undef := hf 6 (by decide)
      have h7 : f 7 = .bool true := hf 7 (by decide)
      have h8 : f 8 = .bool true := hf 8 (by decide)
      have h9 : f 9 = .pointer (some ⟨g1, 33, none⟩) := hf 9 (by decide)
      have h10 : f 10 = .agg (encU c.2.2).toArray := hf 10 (by decide)
      have h11 : f 11 = .pointer (some ⟨g1, 1, none⟩) := hf 11 (by decide)
      have h12 : f 12 = .agg (encU c.2.1).toArray := hf 12 (by decide)
      have h13 : f 13 = .agg (encU (chkS c.2.1)).toArray := hf 13 (by decide)
      have h14 : f 14 = .bool false := hf 14 (by decide)
      have h15 : f 15 = .bool false := hf 15 (by decide)
      have h16 : f 16 = .bool false := hf 16 (by decide)
      clear hf hap
      clear zsz z1
      subst ha0
      simp only [slotsRq2, putAll, h0, h1, h2, h3, h4, h5, h6, h7, h8, h9, h10, h11, h12, h13, h14, h15, h16, Act.put, List.setIfInBounds_toArray, List.set_cons_zero, List.set_cons_succ]
      clear h0 h1 h2 h3 h4 h5 h6 h7 h8 h9 h10 h11 h12 h13 h14 h15 h16
      refine tl_nilN ?_
      have HF := Lib.hid (HB.out.trans (hS.mono HB.out.size))
      clear hS
      go_wp2_with fail
      go_ret
      exact ⟨⟨_, rfl, congrArg Value.bool hp.symm⟩, HF.out⟩
  · have e1 : (c.1 == (1 : Int)) = false := by simp [k1]
    by_cases k2 : c.1 = -1
    · have e2 : (c.1 == (-1 : Int)) = true := by simp [k2]
      by_cases k3 : c.2.2 = chkS c.2.1
      · have e3 : decide (c.2.2 = chkS c.2.1) = true := by simp [k3]
        have hp : isPure c = true := by simp [isPure, k2, k3]
        refine wp_act (fun a0 ha0 => ?_)
        have zsz : a0.tmps.size = 19 := by rw [ha0]; rfl
        have z1 : a0.eval (.tmp 1) = .pointer (some ⟨g1, 0, none⟩) := by rw [ha0]; rfl
        refine wp_region_flw (E := Flz) [] slotsRq3 waitRq3 [Fct.val Flz 0 (.pointer (some ⟨g1, 0, none⟩)), Fct.val Flz 1 (.int .i64 (c.1)), Fct.val Flz 2 (.bool false), Fct.val Flz 3 (.bool false), Fct.val Flz 4 (.pointer (some ⟨g1, 0, none⟩)), Fct.val Flz 5 (.int .i64 (c.1)), Fct.val Flz 6 (.bool true), Fct.val Flz 7 (.bool true), Fct.val Flz 8 (.bool true), Fct.val Flz 9 (.pointer (some ⟨g1, 33, none⟩)), Fct.val Flz 10 (.agg (encU c.2.2).toArray), Fct.val Flz 11 (.pointer (some ⟨g1, 1, none⟩)), Fct.val Flz 12 (.agg (encU c.2.1).toArray), Fct.val Flz 13 (.agg (encU (chkS c.2.1)).toArray), Fct.val Flz 14 (.bool true), Fct.val Flz 15 (.bool true), Fct.val Flz 16 (.bool true)] (fun w' => Below w1.drew.heap.size w1.drew w') _ 17 0 chkRq3 (by kernel_rfl) rfl (by kernel_rfl) (by kernel_rfl) (by decide) (Below.refl _ _) ?_ ?_
        · refine lt_s (lt_s (lt_s (lt_s (lt_s (lt_s (lt_s (lt_s (lt_s (lt_s (lt_s (lt_s (lt_s (lt_s (lt_s (lt_s (lt_s (lt_0) ?_) ?_) ?_) ?_) ?_) ?_) ?_) ?_) ?_) ?_) ?_) ?_) ?_) ?_) ?_) ?_) ?_
          · intro f w1 hS hf
            generalize hA : putAll _ _ f = aA
            have r1 : aA.eval (.tmp 1) = .pointer (some ⟨g1, 0, none⟩) := by rw [← hA]; exact putAll_off f 1 slotsRq3 a0 (by kernel_rfl) z1
            exact flw_val rfl rfl (.pointer (some ⟨g1, 0, none⟩)) (fld0R (.tmp 1) rfl g1 r1) hS (Flz.refl _) (updF_self _ _ _)
          · intro f w1 hS hf
            generalize hA : putAll _ _ f = aA
            have h3 : f 0 = .pointer (some ⟨g1, 0, none⟩) := hf 0 (by decide)
            have r3 : aA.eval (.tmp 3) = .pointer (some ⟨g1, 0, none⟩) := by rw [← hA]; exact putAll_at f 3 0 slotsRq3 a0 sbRq3 (by kernel_rfl) zsz rfl h3
            exact flw_val rfl rfl (.int .i64 (c.1)) (ex_load1 2 (.tmp 3) rfl ⟨g1, 0, none⟩ r3 (fun _ => by kernel_rfl) ((HX1.out.keepB hS).cellv (encC_0 c))) hS (Flz.refl _) (updF_self _ _ _)
          · intro f w1 hS hf
            generalize hA : putAll _ _ f = aA
            have h4 : f 1 = .int .i64 (c.1) := hf 1 (by decide)
            have r4 : aA.eval (.tmp 4) = .int .i64 (c.1) := by rw [← hA]; exact putAll_at f 4 1 slotsRq3 a0 sbRq3 (by kernel_rfl) zsz rfl h4
            exact flw_val rfl rfl (.bool false) (Eq.trans (ex_int .eql _ _ (.tmp 4) _ rfl .i64 c.1 1 r4 rfl (.bool (c.1 == (1 : Int))) (fun _ => rfl)) (by rw [e1])) hS (Flz.refl _) (updF_self _ _ _)
          · intro f w1 hS hf
            generalize hA : putAll _ _ f = aA
            have h5 : f 2 = .bool false := hf 2 (by decide)
            have r5 : aA.eval (.tmp 5) = .bool false := by rw [← hA]; exact putAll_at f 5 2 slotsRq3 a0 sbRq3 (by kernel_rfl) zsz rfl h5
            exact flw_val rfl rfl (.bool false) (ex_move (.tmp 5) rfl r5) hS (Flz.refl _) (updF_self _ _ _)
          · intro f w1 hS hf
            generalize hA : putAll _ _ f = aA
            have g6 : f 3 = .bool false := hf 3 (by decide)
            have t6 : aA.tmps[6]? = some (.bool false) := by rw [← hA]; exact putAll_g f 6 3 slotsRq3 a0 sbRq3 (by kernel_rfl) zsz rfl g6
            have r1 : aA.eval (.tmp 1) = .pointer (some ⟨g1, 0, none⟩) := by rw [← hA]; exact putAll_off f 1 slotsRq3 a0 (by kernel_rfl) z1
            exact flw_val rfl ((wanted_of rfl 6 rfl t6).trans rfl) (.pointer (some ⟨g1, 0, none⟩)) (fld0R (.tmp 1) rfl g1 r1) hS (Flz.refl _) (updF_self _ _ _)
          · intro f w1 hS hf
            generalize hA : putAll _ _ f = aA
            have g6 : f 3 = .bool false := hf 3 (by decide)
            have t6 : aA.tmps[6]? = some (.bool false) := by rw [← hA]; exact putAll_g f 6 3 slotsRq3 a0 sbRq3 (by kernel_rfl) zsz rfl g6
            have h7 : f 4 = .pointer (some ⟨g1, 0, none⟩) := hf 4 (by decide)
            have r7 : aA.eval (.tmp 7) = .pointer (some ⟨g1, 0, none⟩) := by rw [← hA]; exact putAll_at f 7 4 slotsRq3 a0 sbRq3 (by kernel_rfl) zsz rfl h7
            exact flw_val rfl ((wanted_of rfl 6 rfl t6).trans rfl) (.int .i64 (c.1)) (ex_load1 2 (.tmp 7) rfl ⟨g1, 0, none⟩ r7 (fun _ => by kernel_rfl) ((HX1.out.keepB hS).cellv (encC_0 c))) hS (Flz.refl _) (updF_self _ _ _)
          · intro f w1 hS hf
            generalize hA : putAll _ _ f = aA
            have g6 : f 3 = .bool false := hf 3 (by decide)
            have t6 : aA.tmps[6]? = some (.bool false) := by rw [← hA]; exact putAll_g f 6 3 slotsRq3 a0 sbRq3 (by kernel_rfl) zsz rfl g6
            have h8 : f 5 = .int .i64 (c.1) := hf 5 (by decide)
            have r8 : aA.eval (.tmp 8) = .int .i64 (c.1) := by rw [← hA]; exact putAll_at f 8 5 slotsRq3 a0 sbRq3 (by kernel_rfl) zsz rfl h8
            exact flw_val rfl ((wanted_of rfl 6 rfl t6).trans rfl) (.bool true) (Eq.trans (ex_int .eql _ _ (.tmp 8) _ rfl .i64 c.1 ((-1)) r8 rfl (.bool (c.1 == ((-1) : Int))) (fun _ => rfl)) (by rw [e2])) hS (Flz.refl _) (updF_self _ _ _)
          · intro f w1 hS hf
            generalize hA : putAll _ _ f = aA
            have h6 : f 3 = .bool false := hf 3 (by decide)
            have r6 : aA.eval (.tmp 6) = .bool false := by rw [← hA]; exact putAll_at f 6 3 slotsRq3 a0 sbRq3 (by kernel_rfl) zsz rfl h6
            have h9 : f 6 = .bool true := hf 6 (by decide)
            have r9 : aA.eval (.tmp 9) = .bool true := by rw [← hA]; exact putAll_at f 9 6 slotsRq3 a0 sbRq3 (by kernel_rfl) zsz rfl h9
            exact flw_val rfl rfl (.bool true) (ex_pick (.tmp 6) _ (.tmp 9) rfl false r6 ((if_neg (by decide)).trans r9)) hS (Flz.refl _) (updF_self _ _ _)
          · intro f w1 hS hf
            generalize hA : putAll _ _ f = aA
            have h10 : f 7 = .bool true := hf 7 (by decide)
            have r10 : aA.eval (.tmp 10) = .bool true := by rw [← hA]; exact putAll_at f 10 7 slotsRq3 a0 sbRq3 (by kernel_rfl) zsz rfl h10
            exact flw_val rfl rfl (.bool true) (ex_move (.tmp 10) rfl r10) hS (Flz.refl _) (updF_self _ _ _)
          · intro f w1 hS hf
            generalize hA : putAll _ _ f = aA
            have g11 : f 8 = .bool true := hf 8 (by decide)
            have t11 : aA.tmps[11]? = some (.bool true) := by rw [← hA]; exact putAll_g f 11 8 slotsRq3 a0 sbRq3 (by kernel_rfl) zsz rfl g11
            have r1 : aA.eval (.tmp 1) = .pointer (some ⟨g1, 0, none⟩) := by rw [← hA]; exact putAll_off f 1 slotsRq3 a0 (by kernel_rfl) z1
            exact flw_val rfl ((wanted_of rfl 11 rfl t11).trans rfl) (.pointer (some ⟨g1, 33, none⟩)) (fld2R (.tmp 1) rfl g1 r1) hS (Flz.refl _) (updF_self _ _ _)
          · intro f w1 hS hf
            generalize hA : putAll _ _ f = aA
            have g11 : f 8 = .bool true := hf 8 (by decide)
            have t11 : aA.tmps[11]? = some (.bool true) := by rw [← hA]; exact putAll_g f 11 8 slotsRq3 a0 sbRq3 (by kernel_rfl) zsz rfl g11
            have h12 : f 9 = .pointer (some ⟨g1, 33, none⟩) := hf 9 (by decide)
            have r12 : aA.eval (.tmp 12) = .pointer (some ⟨g1, 33, none⟩) := by rw [← hA]; exact putAll_at f 12 9 slotsRq3 a0 sbRq3 (by kernel_rfl) zsz rfl h12
            exact flw_val rfl ((wanted_of rfl 11 rfl t11).trans rfl) (.agg (encU c.2.2).toArray) (ex_loadR 35 (.tmp 12) rfl ⟨g1, 33, none⟩ r12 (fun _ => by kernel_rfl) (encU c.2.2) (by rw [encU_len]; kernel_rfl) ((HX1.out.keepB hS).part (encU c.2.2) 33 (encC_chk c))) hS (Flz.refl _) (updF_self _ _ _)
          · intro f w1 hS hf
            generalize hA : putAll _ _ f = aA
            have g11 : f 8 = .bool true := hf 8 (by decide)
            have t11 : aA.tmps[11]? = some (.bool true) := by rw [← hA]; exact putAll_g f 11 8 slotsRq3 a0 sbRq3 (by kernel_rfl) zsz rfl g11
            have r1 : aA.eval (.tmp 1) = .pointer (some ⟨g1, 0, none⟩) := by rw [← hA]; exact putAll_off f 1 slotsRq3 a0 (by kernel_rfl) z1
            exact flw_val rfl ((wanted_of rfl 11 rfl t11).trans rfl) (.pointer (some ⟨g1, 1, none⟩)) (fld1R (.tmp 1) rfl g1 r1) hS (Flz.refl _) (updF_self _ _ _)
          · intro f w1 hS hf
            generalize hA : putAll _ _ f = aA
            have g11 : f 8 = .bool true := hf 8 (by decide)
            have t11 : aA.tmps[11]? = some (.bool true) := by rw [← hA]; exact putAll_g f 11 8 slotsRq3 a0 sbRq3 (by kernel_rfl) zsz rfl g11
            have h14 : f 11 = .pointer (some ⟨g1, 1, none⟩) := hf 11 (by decide)
            have r14 : aA.eval (.tmp 14) = .pointer (some ⟨g1, 1, none⟩) := by rw [← hA]; exact putAll_at f 14 11 slotsRq3 a0 sbRq3 (by kernel_rfl) zsz rfl h14
            exact flw_val rfl ((wanted_of rfl 11 rfl t11).trans rfl) (.agg (encU c.2.1).toArray) (ex_loadR 35 (.tmp 14) rfl ⟨g1, 1, none⟩ r14 (fun _ => by kernel_rfl) (encU c.2.1) (by rw [encU_len]; kernel_rfl) ((HX1.out.keepB hS).part (encU c.2.1) 1 (encC_key c))) hS (Flz.refl _) (updF_self _ _ _)
          · intro f w1 hS hf
            generalize hA : putAll _ _ f = aA
            have g11 : f 8 = .bool true := hf 8 (by decide)
            have t11 : aA.tmps[11]? = some (.bool true) := by rw [← hA]; exact putAll_g f 11 8 slotsRq3 a0 sbRq3 (by kernel_rfl) zsz rfl g11
            have h15 : f 12 = .agg (encU c.2.1).toArray := hf 12 (by decide)
            have r15 : aA.eval (.tmp 15) = .agg (encU c.2.1).toArray := by rw [← hA]; exact putAll_at f 15 12 slotsRq3 a0 sbRq3 (by kernel_rfl) zsz rfl h15
            exact flw_call rfl ((wanted_of rfl 11 rfl t11).trans rfl) 19 #[(.tmp 15)] _ rfl #[.agg (encU c.2.1).toArray] (by simp only [List.map_toArray, List.map_cons, List.map_nil, r15]) (fun w => by kernel_rfl) (fun v _ => v = .agg (encU (chkS c.2.1)).toArray) (rchk_any c.2.1 w1) (fun v w' hr hb => ⟨hS.trans (hb.mono hS.size), Flz.of hb, (updF_self _ _ _).trans hr⟩)
          · intro f w1 hS hf
            generalize hA : putAll _ _ f = aA
            have g11 : f 8 = .bool true := hf 8 (by decide)
            have t11 : aA.tmps[11]? = some (.bool true) := by rw [← hA]; exact putAll_g f 11 8 slotsRq3 a0 sbRq3 (by kernel_rfl) zsz rfl g11
            have h13 : f 10 = .agg (encU c.2.2).toArray := hf 10 (by decide)
            have r13 : aA.eval (.tmp 13) = .agg (encU c.2.2).toArray := by rw [← hA]; exact putAll_at f 13 10 slotsRq3 a0 sbRq3 (by kernel_rfl) zsz rfl h13
            have h16 : f 13 = .agg (encU (chkS c.2.1)).toArray := hf 13 (by decide)
            have r16 : aA.eval (.tmp 16) = .agg (encU (chkS c.2.1)).toArray := by rw [← hA]; exact putAll_at f 16 13 slotsRq3 a0 sbRq3 (by kernel_rfl) zsz rfl h16
            exact flw_val rfl ((wanted_of rfl 11 rfl t11).trans rfl) (.bool true) (Eq.trans (eql_su 35 (.tmp 13) (.tmp 16) _ rfl c.2.2 (chkS c.2.1) r13 r16 (by kernel_rfl) (by kernel_rfl)) (by rw [e3])) hS (Flz.refl _) (updF_self _ _ _)
          · intro f w1 hS hf
            generalize hA : putAll _ _ f = aA
            have h11 : f 8 = .bool true := hf 8 (by decide)
            have r11 : aA.eval (.tmp 11) = .bool true := by rw [← hA]; exact putAll_at f 11 8 slotsRq3 a0 sbRq3 (by kernel_rfl) zsz rfl h11
            have h17 : f 14 = .bool true := hf 14 (by decide)
            have r17 : aA.eval (.tmp 17) = .bool true := by rw [← hA]; exact putAll_at f 17 14 slotsRq3 a0 sbRq3 (by kernel_rfl) zsz rfl h17
            exact flw_val rfl rfl (.bool true) (ex_pick (.tmp 11) (.tmp 17) _ rfl true r11 ((if_pos rfl).trans r17)) hS (Flz.refl _) (updF_self _ _ _)
          · intro f w1 hS hf
            generalize hA : putAll _ _ f = aA
            have h18 : f 15 = .bool true := hf 15 (by decide)
            have r18 : aA.eval (.tmp 18) = .bool true := by rw [← hA]; exact putAll_at f 18 15 slotsRq3 a0 sbRq3 (by kernel_rfl) zsz rfl h18
            exact flw_val rfl rfl (.bool true) (ex_assign (.tmp 18) rfl r18) hS (Flz.refl _) (updF_self _ _ _)
        intro f w3 hS hf hap
        have h0 : f 0 = .pointer (some ⟨g1, 0, none⟩) := hf 0 (by decide)
        have h1 : f 1 = .int .i64 (c.1) := hf 1 (by decide)
        have h2 : f 2 = .bool false := hf 2 (by decide)
        have h3 : f 3 = .bool false := hf 3 (by decide)
        have h4 : f 4 = .pointer (some ⟨g1, 0, none⟩) := hf 4 (by decide)
        have h5 : f 5 = .int .i64 (c.1) := hf 5 (by decide)
        have h6 : f 6 = .bool true := hf 6 (by decide)
        have h7 : f 7 = .bool true := hf 7 (by decide)
        have h8 : f 8 = .bool true := hf 8 (by decide)
        have h9 : f 9 = .pointer (some ⟨g1, 33, none⟩) := hf 9 (by decide)
        have h10 : f 10 = .agg (encU c.2.2).toArray := hf 10 (by decide)
        have h11 : f 11 = .pointer (some ⟨g1, 1, none⟩) := hf 11 (by decide)
        have h12 : f 12 = .agg (encU c.2.1).toArray := hf 12 (by decide)
        have h13 : f 13 = .agg (encU (chkS c.2.1)).toArray := hf 13 (by decide)
        have h14 : f 14 = .bool true := hf 14 (by decide)
        have h15 : f 15 = .bool true := hf 15 (by decide)
        have h16 : f 16 = .bool true := hf 16 (by decide)
        clear hf hap
        clear zsz z1
        subst ha0
        simp only [slotsRq3, putAll, h0, h1, h2, h3, h4, h5, h6, h7, h8, h9, h10, h11, h12, h13, h14, h15, h16, Act.put, List.setIfInBounds_toArray, List.set_cons_zero, List.set_cons_succ]
        clear h0 h1 h2 h3 h4 h5 h6 h7 h8 h9 h10 h11 h12 h13 h14 h15 h16
        refine tl_nilN ?_
        have HF := Lib.hid (HB.out.trans (hS.mono HB.out.size))
        clear hS
        go_wp2_with fail
        go_ret
        exact ⟨⟨_, rfl, congrArg Value.bool hp.symm⟩, HF.out⟩
      · have e3 : decide (c.2.2 = chkS c.2.1) = false := by simp [k3]
        have hp : isPure c = false := by simp [isPure, k3]
        refine wp_act (fun a0 ha0 => ?_)
        have zsz : a0.tmps.size = 19 := by rw [ha0]; rfl
        have z1 : a0.eval (.tmp 1) = .pointer (some ⟨g1, 0, none⟩) := by rw [ha0]; rfl
        refine wp_region_flw (E := Flz) [] slotsRq4 waitRq4 [Fct.val Flz 0 (.pointer (some ⟨g1, 0, none⟩)), Fct.val Flz 1 (.int .i64 (c.1)), Fct.val Flz 2 (.bool false), Fct.val Flz 3 (.bool false), Fct.val Flz 4 (.pointer (some ⟨g1, 0, none⟩)), Fct.val Flz 5 (.int .i64 (c.1)), Fct.val Flz 6 (.bool true), Fct.val Flz 7 (.bool true), Fct.val Flz 8 (.bool true), Fct.val Flz 9 (.pointer (some ⟨g1, 33, none⟩)), Fct.val Flz 10 (.agg (encU c.2.2).toArray), Fct.val Flz 11 (.pointer (some ⟨g1, 1, none⟩)), Fct.val Flz 12 (.agg (encU c.2.1).toArray), Fct.val Flz 13 (.agg (encU (chkS c.2.1)).toArray), Fct.val Flz 14 (.bool false), Fct.val Flz 15 (.bool false), Fct.val Flz 16 (.bool false)] (fun w' => Below w1.drew.heap.size w1.drew w') _ 17 0 chkRq4 (by kernel_rfl) rfl (by kernel_rfl) (by kernel_rfl) (by decide) (Below.refl _ _) ?_ ?_
        · refine lt_s (lt_s (lt_s (lt_s (lt_s (lt_s (lt_s (lt_s (lt_s (lt_s (lt_s (lt_s (lt_s (lt_s (lt_s (lt_s (lt_s (lt_0) ?_) ?_) ?_) ?_) ?_) ?_) ?_) ?_) ?_) ?_) ?_) ?_) ?_) ?_) ?_) ?_) ?_
          · intro f w1 hS hf
            generalize hA : putAll _ _ f = aA
            have r1 : aA.eval (.tmp 1) = .pointer (some ⟨g1, 0, none⟩) := by rw [← hA]; exact putAll_off f 1 slotsRq4 a0 (by kernel_rfl) z1
            exact flw_val rfl rfl (.pointer (some ⟨g1, 0, none⟩)) (fld0R (.tmp 1) rfl g1 r1) hS (Flz.refl _) (updF_self _ _ _)
          · intro f w1 hS hf
            generalize hA : putAll _ _ f = aA
            have h3 : f 0 = .pointer (some ⟨g1, 0, none⟩) := hf 0 (by decide)
            have r3 : aA.eval (.tmp 3) = .pointer (some ⟨g1, 0, none⟩) := by rw [← hA]; exact putAll_at f 3 0 slotsRq4 a0 sbRq4 (by kernel_rfl) zsz rfl h3
            exact flw_val rfl rfl (.int .i64 (c.1)) (ex_load1 2 (.tmp 3) rfl ⟨g1, 0, none⟩ r3 (fun _ => by kernel_rfl) ((HX1.out.keepB hS).cellv (encC_0 c))) hS (Flz.refl _) (updF_self _ _ _)
          · intro f w1 hS hf
            generalize hA : putAll _ _ f = aA
            have h4 : f 1 = .int .i64 (c.1) := hf 1 (by decide)
            have r4 : aA.eval (.tmp 4) = .int .i64 (c.1) := by rw [← hA]; exact putAll_at f 4 1 slotsRq4 a0 sbRq4 (by kernel_rfl) zsz rfl h4
            exact flw_val rfl rfl (.bool false) (Eq.trans (ex_int .eql _ _ (.tmp 4) _ rfl .i64 c.1 1 r4 rfl (.bool (c.1 == (1 : Int))) (fun _ => rfl)) (by rw [e1])) hS (Flz.refl _) (updF_self _ _ _)
          · intro f w1 hS hf
            generalize hA : putAll _ _ f = aA
            have h5 : f 2 = .bool false := hf 2 (by decide)
            have r5 : aA.eval (.tmp 5) = .bool false := by rw [← hA]; exact putAll_at f 5 2 slotsRq4 a0 sbRq4 (by kernel_rfl) zsz rfl h5
            exact flw_val rfl rfl (.bool false) (ex_move (.tmp 5) rfl r5) hS (Flz.refl _) (updF_self _ _ _)
          · intro f w1 hS hf
            generalize hA : putAll _ _ f = aA
            have g6 : f 3 = .bool false := hf 3 (by decide)
            have t6 : aA.tmps[6]? = some (.bool false) := by rw [← hA]; exact putAll_g f 6 3 slotsRq4 a0 sbRq4 (by kernel_rfl) zsz rfl g6
            have r1 : aA.eval (.tmp 1) = .pointer (some ⟨g1, 0, none⟩) := by rw [← hA]; exact putAll_off f 1 slotsRq4 a0 (by kernel_rfl) z1
            exact flw_val rfl ((wanted_of rfl 6 rfl t6).trans rfl) (.pointer (some ⟨g1, 0, none⟩)) (fld0R (.tmp 1) rfl g1 r1) hS (Flz.refl _) (updF_self _ _ _)
          · intro f w1 hS hf
            generalize hA : putAll _ _ f = aA
            have g6 : f 3 = .bool false := hf 3 (by decide)
            have t6 : aA.tmps[6]? = some (.bool false) := by rw [← hA]; exact putAll_g f 6 3 slotsRq4 a0 sbRq4 (by kernel_rfl) zsz rfl g6
            have h7 : f 4 = .pointer (some ⟨g1, 0, none⟩) := hf 4 (by decide)
            have r7 : aA.eval (.tmp 7) = .pointer (some ⟨g1, 0, none⟩) := by rw [← hA]; exact putAll_at f 7 4 slotsRq4 a0 sbRq4 (by kernel_rfl) zsz rfl h7
            exact flw_val rfl ((wanted_of rfl 6 rfl t6).trans rfl) (.int .i64 (c.1)) (ex_load1 2 (.tmp 7) rfl ⟨g1, 0, none⟩ r7 (fun _ => by kernel_rfl) ((HX1.out.keepB hS).cellv (encC_0 c))) hS (Flz.refl _) (updF_self _ _ _)
          · intro f w1 hS hf
            generalize hA : putAll _ _ f = aA
            have g6 : f 3 = .bool false := hf 3 (by decide)
            have t6 : aA.tmps[6]? = some (.bool false) := by rw [← hA]; exact putAll_g f 6 3 slotsRq4 a0 sbRq4 (by kernel_rfl) zsz rfl g6
            have h8 : f 5 = .int .i64 (c.1) := hf 5 (by decide)
            have r8 : aA.eval (.tmp 8) = .int .i64 (c.1) := by rw [← hA]; exact putAll_at f 8 5 slotsRq4 a0 sbRq4 (by kernel_rfl) zsz rfl h8
            exact flw_val rfl ((wanted_of rfl 6 rfl t6).trans rfl) (.bool true) (Eq.trans (ex_int .eql _ _ (.tmp 8) _ rfl .i64 c.1 ((-1)) r8 rfl (.bool (c.1 == ((-1) : Int))) (fun _ => rfl)) (by rw [e2])) hS (Flz.refl _) (updF_self _ _ _)
          · intro f w1 hS hf
            generalize hA : putAll _ _ f = aA
            have h6 : f 3 = .bool false := hf 3 (by decide)
            have r6 : aA.eval (.tmp 6) = .bool false := by rw [← hA]; exact putAll_at f 6 3 slotsRq4 a0 sbRq4 (by kernel_rfl) zsz rfl h6
            have h9 : f 6 = .bool true := hf 6 (by decide)
            have r9 : aA.eval (.tmp 9) = .bool true := by rw [← hA]; exact putAll_at f 9 6 slotsRq4 a0 sbRq4 (by kernel_rfl) zsz rfl h9
            exact flw_val rfl rfl (.bool true) (ex_pick (.tmp 6) _ (.tmp 9) rfl false r6 ((if_neg (by decide)).trans r9)) hS (Flz.refl _) (updF_self _ _ _)
          · intro f w1 hS hf
            generalize hA : putAll _ _ f = aA
            have h10 : f 7 = .bool true := hf 7 (by decide)
            have r10 : aA.eval (.tmp 10) = .bool true := by rw [← hA]; exact putAll_at f 10 7 slotsRq4 a0 sbRq4 (by kernel_rfl) zsz rfl h10
            exact flw_val rfl rfl (.bool true) (ex_move (.tmp 10) rfl r10) hS (Flz.refl _) (updF_self _ _ _)
          · intro f w1 hS hf
            generalize hA : putAll _ _ f = aA
            have g11 : f 8 = .bool true := hf 8 (by decide)
            have t11 : aA.tmps[11]? = some (.bool true) := by rw [← hA]; exact putAll_g f 11 8 slotsRq4 a0 sbRq4 (by kernel_rfl) zsz rfl g11
            have r1 : aA.eval (.tmp 1) = .pointer (some ⟨g1, 0, none⟩) := by rw [← hA]; exact putAll_off f 1 slotsRq4 a0 (by kernel_rfl) z1
            exact flw_val rfl ((wanted_of rfl 11 rfl t11).trans rfl) (.pointer (some ⟨g1, 33, none⟩)) (fld2R (.tmp 1) rfl g1 r1) hS (Flz.refl _) (updF_self _ _ _)
          · intro f w1 hS hf
            generalize hA : putAll _ _ f = aA
            have g11 : f 8 = .bool true := hf 8 (by decide)
            have t11 : aA.tmps[11]? = some (.bool true) := by rw [← hA]; exact putAll_g f 11 8 slotsRq4 a0 sbRq4 (by kernel_rfl) zsz rfl g11
            have h12 : f 9 = .pointer (some ⟨g1, 33, none⟩) := hf 9 (by decide)
            have r12 : aA.eval (.tmp 12) = .pointer (some ⟨g1, 33, none⟩) := by rw [← hA]; exact putAll_at f 12 9 slotsRq4 a0 sbRq4 (by kernel_rfl) zsz rfl h12
            exact flw_val rfl ((wanted_of rfl 11 rfl t11).trans rfl) (.agg (encU c.2.2).toArray) (ex_loadR 35 (.tmp 12) rfl ⟨g1, 33, none⟩ r12 (fun _ => by kernel_rfl) (encU c.2.2) (by rw [encU_len]; kernel_rfl) ((HX1.out.keepB hS).part (encU c.2.2) 33 (encC_chk c))) hS (Flz.refl _) (updF_self _ _ _)
          · intro f w1 hS hf
            generalize hA : putAll _ _ f = aA
            have g11 : f 8 = .bool true := hf 8 (by decide)
            have t11 : aA.tmps[11]? = some (.bool true) := by rw [← hA]; exact putAll_g f 11 8 slotsRq4 a0 sbRq4 (by kernel_rfl) zsz rfl g11
            have r1 : aA.eval (.tmp 1) = .pointer (some ⟨g1, 0, none⟩) := by rw [← hA]; exact putAll_off f 1 slotsRq4 a0 (by kernel_rfl) z1
            exact flw_val rfl ((wanted_of rfl 11 rfl t11).trans rfl) (.pointer (some ⟨g1, 1, none⟩)) (fld1R (.tmp 1) rfl g1 r1) hS (Flz.refl _) (updF_self _ _ _)
          · intro f w1 hS hf
            generalize hA : putAll _ _ f = aA
            have g11 : f 8 = .bool true := hf 8 (by decide)
            have t11 : aA.tmps[11]? = some (.bool true) := by rw [← hA]; exact putAll_g f 11 8 slotsRq4 a0 sbRq4 (by kernel_rfl) zsz rfl g11
            have h14 : f 11 = .pointer (some ⟨g1, 1, none⟩) := hf 11 (by decide)
            have r14 : aA.eval (.tmp 14) = .pointer (some ⟨g1, 1, none⟩) := by rw [← hA]; exact putAll_at f 14 11 slotsRq4 a0 sbRq4 (by kernel_rfl) zsz rfl h14
            exact flw_val rfl ((wanted_of rfl 11 rfl t11).trans rfl) (.agg (encU c.2.1).toArray) (ex_loadR 35 (.tmp 14) rfl ⟨g1, 1, none⟩ r14 (fun _ => by kernel_rfl) (encU c.2.1) (by rw [encU_len]; kernel_rfl) ((HX1.out.keepB hS).part (encU c.2.1) 1 (encC_key c))) hS (Flz.refl _) (updF_self _ _ _)
          · intro f w1 hS hf
            generalize hA : putAll _ _ f = aA
            have g11 : f 8 = .bool true := hf 8 (by decide)
            have t11 : aA.tmps[11]? = some (.bool true) := by rw [← hA]; exact putAll_g f 11 8 slotsRq4 a0 sbRq4 (by kernel_rfl) zsz rfl g11
            have h15 : f 12 = .agg (encU c.2.1).toArray := hf 12 (by decide)
            have r15 : aA.eval (.tmp 15) = .agg (encU c.2.1).toArray := by rw [← hA]; exact putAll_at f 15 12 slotsRq4 a0 sbRq4 (by kernel_rfl) zsz rfl h15
            exact flw_call rfl ((wanted_of rfl 11 rfl t11).trans rfl) 19 #[(.tmp 15)] _ rfl #[.agg (encU c.2.1).toArray] (by simp only [List.map_toArray, List.map_cons, List.map_nil, r15]) (fun w => by kernel_rfl) (fun v _ => v = .agg (encU (chkS c.2.1)).toArray) (rchk_any c.2.1 w1) (fun v w' hr hb => ⟨hS.trans (hb.mono hS.size), Flz.of hb, (updF_self _ _ _).trans hr⟩)
          · intro f w1 hS hf
            generalize hA : putAll _ _ f = aA
            have g11 : f 8 = .bool true := hf 8 (by decide)
            have t11 : aA.tmps[11]? = some (.bool true) := by rw [← hA]; exact putAll_g f 11 8 slotsRq4 a0 sbRq4 (by kernel_rfl) zsz rfl g11
            have h13 : f 10 = .agg (encU c.2.2).toArray := hf 10 (by decide)
            have r13 : aA.eval (.tmp 13) = .agg (encU c.2.2).toArray := by rw [← hA]; exact putAll_at f 13 10 slotsRq4 a0 sbRq4 (by kernel_rfl) zsz rfl h13
            have h16 : f 13 = .agg (encU (chkS c.2.1)).toArray := hf 13 (by decide)
            have r16 : aA.eval (.tmp 16) = .agg (encU (chkS c.2.1)).toArray := by rw [← hA]; exact putAll_at f 16 13 slotsRq4 a0 sbRq4 (by kernel_rfl) zsz rfl h16
            exact flw_val rfl ((wanted_of rfl 11 rfl t11).trans rfl) (.bool false) (Eq.trans (eql_su 35 (.tmp 13) (.tmp 16) _ rfl c.2.2 (chkS c.2.1) r13 r16 (by kernel_rfl) (by kernel_rfl)) (by rw [e3])) hS (Flz.refl _) (updF_self _ _ _)
          · intro f w1 hS hf
            generalize hA : putAll _ _ f = aA
            have h11 : f 8 = .bool true := hf 8 (by decide)
            have r11 : aA.eval (.tmp 11) = .bool true := by rw [← hA]; exact putAll_at f 11 8 slotsRq4 a0 sbRq4 (by kernel_rfl) zsz rfl h11
            have h17 : f 14 = .bool false := hf 14 (by decide)
            have r17 : aA.eval (.tmp 17) = .bool false := by rw [← hA]; exact putAll_at f 17 14 slotsRq4 a0 sbRq4 (by kernel_rfl) zsz rfl h17
            exact flw_val rfl rfl (.bool false) (ex_pick (.tmp 11) (.tmp 17) _ rfl true r11 ((if_pos rfl).trans r17)) hS (Flz.refl _) (updF_self _ _ _)
          · intro f w1 hS hf
            generalize hA : putAll _ _ f = aA
            have h18 : f 15 = .bool false := hf 15 (by decide)
            have r18 : aA.eval (.tmp 18) = .bool false := by rw [← hA]; exact putAll_at f 18 15 slotsRq4 a0 sbRq4 (by kernel_rfl) zsz rfl h18
            exact flw_val rfl rfl (.bool false) (ex_assign (.tmp 18) rfl r18) hS (Flz.refl _) (updF_self _ _ _)
        intro f w3 hS hf hap
        have h0 : f 0 = .pointer (some ⟨g1, 0, none⟩) := hf 0 (by decide)
        have h1 : f 1 = .int .i64 (c.1) := hf 1 (by decide)
        have h2 : f 2 = .bool false := hf 2 (by decide)
        have h3 : f 3 = .bool false := hf 3 (by decide)
        have h4 : f 4 = .pointer (some ⟨g1, 0, none⟩) := hf 4 (by decide)
        have h5 : f 5 = .int .i64 (c.1) := hf 5 (by decide)
        have h6 : f 6 = .bool true := hf 6 (by decide)
        have h7 : f 7 = .bool true := hf 7 (by decide)
        have h8 : f 8 = .bool true := hf 8 (by decide)
        have h9 : f 9 = .pointer (some ⟨g1, 33, none⟩) := hf 9 (by decide)
        have h10 : f 10 = .agg (encU c.2.2).toArray := hf 10 (by decide)
        have h11 : f 11 = .pointer (some ⟨g1, 1, none⟩) := hf 11 (by decide)
        have h12 : f 12 = .agg (encU c.2.1).toArray := hf 12 (by decide)
        have h13 : f 13 = .agg (encU (chkS c.2.1)).toArray := hf 13 (by decide)
        have h14 : f 14 = .bool false := hf 14 (by decide)
        have h15 : f 15 = .bool false := hf 15 (by decide)
        have h16 : f 16 = .bool false := hf 16 (by decide)
        clear hf hap
        clear zsz z1
        subst ha0
        simp only [slotsRq4, putAll, h0, h1, h2, h3, h4, h5, h6, h7, h8, h9, h10, h11, h12, h13, h14, h15, h16, Act.put, List.setIfInBounds_toArray, List.set_cons_zero, List.set_cons_succ]
        clear h0 h1 h2 h3 h4 h5 h6 h7 h8 h9 h10 h11 h12 h13 h14 h15 h16
        refine tl_nilN ?_
        have HF := Lib.hid (HB.out.trans (hS.mono HB.out.size))
        clear hS
        go_wp2_with fail
        go_ret
        exact ⟨⟨_, rfl, congrArg Value.bool hp.symm⟩, HF.out⟩
    · have e2 : (c.1 == (-1 : Int)) = false := by simp [k2]
      have hp : isPure c = false := by simp [isPure, k1, k2]
      refine wp_act (fun a0 ha0 => ?_)
      have zsz : a0.tmps.size = 19 := by rw [ha0]; rfl
      have z1 : a0.eval (.tmp 1) = .pointer (some ⟨g1, 0, none⟩) := by rw [ha0]; rfl
      refine wp_region_flw (E := Flz) [] slotsRq5 waitRq5 [Fct.val Flz 0 (.pointer (some ⟨g1, 0, none⟩)), Fct.val Flz 1 (.int .i64 (c.1)), Fct.val Flz 2 (.bool false), Fct.val Flz 3 (.bool false), Fct.val Flz 4 (.pointer (some ⟨g1, 0, none⟩)), Fct.val Flz 5 (.int .i64 (c.1)), Fct.val Flz 6 (.bool false), Fct.val Flz 7 (.bool false), Fct.val Flz 8 (.bool false), Fct.val Flz 9 (undef), Fct.val Flz 10 (undef), Fct.val Flz 11 (undef), Fct.val Flz 12 (undef), Fct.val Flz 13 (undef), Fct.val Flz 14 (undef), Fct.val Flz 15 (.bool false), Fct.val Flz 16 (.bool false)] (fun w' => Below w1.drew.heap.size w1.drew w') _ 17 0 chkRq5 (by kernel_rfl) rfl (by kernel_rfl) (by kernel_rfl) (by decide) (Below.refl _ _) ?_ ?_
      · refine lt_s (lt_s (lt_s (lt_s (lt_s (lt_s (lt_s (lt_s (lt_s (lt_s (lt_s (lt_s (lt_s (lt_s (lt_s (lt_s (lt_s (lt_0) ?_) ?_) ?_) ?_) ?_) ?_) ?_) ?_) ?_) ?_) ?_) ?_) ?_) ?_) ?_) ?_) ?_
        · intro f w1 hS hf
          generalize hA : putAll _ _ f = aA
          have r1 : aA.eval (.tmp 1) = .pointer (some ⟨g1, 0, none⟩) := by rw [← hA]; exact putAll_off f 1 slotsRq5 a0 (by kernel_rfl) z1
          exact flw_val rfl rfl (.pointer (some ⟨g1, 0, none⟩)) (fld0R (.tmp 1) rfl g1 r1) hS (Flz.refl _) (updF_self _ _ _)
        · intro f w1 hS hf
          generalize hA : putAll _ _ f = aA
          have h3 : f 0 = .pointer (some ⟨g1, 0, none⟩) := hf 0 (by decide)
          have r3 : aA.eval (.tmp 3) = .pointer (some ⟨g1, 0, none⟩) := by rw [← hA]; exact putAll_at f 3 0 slotsRq5 a0 sbRq5 (by kernel_rfl) zsz rfl h3
          exact flw_val rfl rfl (.int .i64 (c.1)) (ex_load1 2 (.tmp 3) rfl ⟨g1, 0, none⟩ r3 (fun _ => by kernel_rfl) ((HX1.out.keepB hS).cellv (encC_0 c))) hS (Flz.refl _) (updF_self _ _ _)
        · intro f w1 hS hf
          generalize hA : putAll _ _ f = aA
          have h4 : f 1 = .int .i64 (c.1) := hf 1 (by decide)
          have r4 : aA.eval (.tmp 4) = .int .i64 (c.1) := by rw [← hA]; exact putAll_at f 4 1 slotsRq5 a0 sbRq5 (by kernel_rfl) zsz rfl h4
          exact flw_val rfl rfl (.bool false) (Eq.trans (ex_int .eql _ _ (.tmp 4) _ rfl .i64 c.1 1 r4 rfl (.bool (c.1 == (1 : Int))) (fun _ => rfl)) (by rw [e1])) hS (Flz.refl _) (updF_self _ _ _)
        · intro f w1 hS hf
          generalize hA : putAll _ _ f = aA
          have h5 : f 2 = .bool false := hf 2 (by decide)
          have r5 : aA.eval (.tmp 5) = .bool false := by rw [← hA]; exact putAll_at f 5 2 slotsRq5 a0 sbRq5 (by kernel_rfl) zsz rfl h5
          exact flw_val rfl rfl (.bool false) (ex_move (.tmp 5) rfl r5) hS (Flz.refl _) (updF_self _ _ _)
        · intro f w1 hS hf
          generalize hA : putAll _ _ f = aA
          have g6 : f 3 = .bool false := hf 3 (by decide)
          have t6 : aA.tmps[6]? = some (.bool false) := by rw [← hA]; exact putAll_g f 6 3 slotsRq5 a0 sbRq5 (by kernel_rfl) zsz rfl g6
          have r1 : aA.eval (.tmp 1) = .pointer (some ⟨g1, 0, none⟩) := by rw [← hA]; exact putAll_off f 1 slotsRq5 a0 (by kernel_rfl) z1
          exact flw_val rfl ((wanted_of rfl 6 rfl t6).trans rfl) (.pointer (some ⟨g1, 0, none⟩)) (fld0R (.tmp 1) rfl g1 r1) hS (Flz.refl _) (updF_self _ _ _)
        · intro f w1 hS hf
          generalize hA : putAll _ _ f = aA
          have g6 : f 3 = .bool false := hf 3 (by decide)
          have t6 : aA.tmps[6]? = some (.bool false) := by rw [← hA]; exact putAll_g f 6 3 slotsRq5 a0 sbRq5 (by kernel_rfl) zsz rfl g6
          have h7 : f 4 = .pointer (some ⟨g1, 0, none⟩) := hf 4 (by decide)
          have r7 : aA.eval (.tmp 7) = .pointer (some ⟨g1, 0, none⟩) := by rw [← hA]; exact putAll_at f 7 4 slotsRq5 a0 sbRq5 (by kernel_rfl) zsz rfl h7
          exact flw_val rfl ((wanted_of rfl 6 rfl t6).trans rfl) (.int .i64 (c.1)) (ex_load1 2 (.tmp 7) rfl ⟨g1, 0, none⟩ r7 (fun _ => by kernel_rfl) ((HX1.out.keepB hS).cellv (encC_0 c))) hS (Flz.refl _) (updF_self _ _ _)
        · intro f w1 hS hf
          generalize hA : putAll _ _ f = aA
          have g6 : f 3 = .bool false := hf 3 (by decide)
          have t6 : aA.tmps[6]? = some (.bool false) := by rw [← hA]; exact putAll_g f 6 3 slotsRq5 a0 sbRq5 (by kernel_rfl) zsz rfl g6
          have h8 : f 5 = .int .i64 (c.1) := hf 5 (by decide)
          have r8 : aA.eval (.tmp 8) = .int .i64 (c.1) := by rw [← hA]; exact putAll_at f 8 5 slotsRq5 a0 sbRq5 (by kernel_rfl) zsz rfl h8
          exact flw_val rfl ((wanted_of rfl 6 rfl t6).trans rfl) (.bool false) (Eq.trans (ex_int .eql _ _ (.tmp 8) _ rfl .i64 c.1 ((-1)) r8 rfl (.bool (c.1 == ((-1) : Int))) (fun _ => rfl)) (by rw [e2])) hS (Flz.refl _) (updF_self _ _ _)
        · intro f w1 hS hf
          generalize hA : putAll _ _ f = aA
          have h6 : f 3 = .bool false := hf 3 (by decide)
          have r6 : aA.eval (.tmp 6) = .bool false := by rw [← hA]; exact putAll_at f 6 3 slotsRq5 a0 sbRq5 (by kernel_rfl) zsz rfl h6
          have h9 : f 6 = .bool false := hf 6 (by decide)
          have r9 : aA.eval (.tmp 9) = .bool false := by rw [← hA]; exact putAll_at f 9 6 slotsRq5 a0 sbRq5 (by kernel_rfl) zsz rfl h9
          exact flw_val rfl rfl (.bool false) (ex_pick (.tmp 6) _ (.tmp 9) rfl false r6 ((if_neg (by decide)).trans r9)) hS (Flz.refl _) (updF_self _ _ _)
        · intro f w1 hS hf
          generalize hA : putAll _ _ f = aA
          have h10 : f 7 = .bool false := hf 7 (by decide)
          have r10 : aA.eval (.tmp 10) = .bool false := by rw [← hA]; exact putAll_at f 10 7 slotsRq5 a0 sbRq5 (by kernel_rfl) zsz rfl h10
          exact flw_val rfl rfl (.bool false) (ex_move (.tmp 10) rfl r10) hS (Flz.refl _) (updF_self _ _ _)
        · intro f w1 hS hf
          generalize hA : putAll _ _ f = aA
          have g11 : f 8 = .bool false := hf 8 (by decide)
          have t11 : aA.tmps[11]? = some (.bool false) := by rw [← hA]; exact putAll_g f 11 8 slotsRq5 a0 sbRq5 (by kernel_rfl) zsz rfl g11
          exact flw_skip rfl ((wanted_of rfl 11 rfl t11).trans rfl) hS (Flz.refl _) (updF_self _ _ _)
        · intro f w1 hS hf
          generalize hA : putAll _ _ f = aA
          have g11 : f 8 = .bool false := hf 8 (by decide)
          have t11 : aA.tmps[11]? = some (.bool false) := by rw [← hA]; exact putAll_g f 11 8 slotsRq5 a0 sbRq5 (by kernel_rfl) zsz rfl g11
          exact flw_skip rfl ((wanted_of rfl 11 rfl t11).trans rfl) hS (Flz.refl _) (updF_self _ _ _)
        · intro f w1 hS hf
          generalize hA : putAll _ _ f = aA
          have g11 : f 8 = .bool false := hf 8 (by decide)
          have t11 : aA.tmps[11]? = some (.bool false) := by rw [← hA]; exact putAll_g f 11 8 slotsRq5 a0 sbRq5 (by kernel_rfl) zsz rfl g11
          exact flw_skip rfl ((wanted_of rfl 11 rfl t11).trans rfl) hS (Flz.refl _) (updF_self _ _ _)
        · intro f w1 hS hf
          generalize hA : putAll _ _ f = aA
          have g11 : f 8 = .bool false := hf 8 (by decide)
          have t11 : aA.tmps[11]? = some (.bool false) := by rw [← hA]; exact putAll_g f 11 8 slotsRq5 a0 sbRq5 (by kernel_rfl) zsz rfl g11
          exact flw_skip rfl ((wanted_of rfl 11 rfl t11).trans rfl) hS (Flz.refl _) (updF_self _ _ _)
        · intro f w1 hS hf
          generalize hA : putAll _ _ f = aA
          have g11 : f 8 = .bool false := hf 8 (by decide)
          have t11 : aA.tmps[11]? = some (.bool false) := by rw [← hA]; exact putAll_g f 11 8 slotsRq5 a0 sbRq5 (by kernel_rfl) zsz rfl g11
          exact flw_skip rfl ((wanted_of rfl 11 rfl t11).trans rfl) hS (Flz.refl _) (updF_self _ _ _)
        · intro f w1 hS hf
          generalize hA : putAll _ _ f = aA
          have g11 : f 8 = .bool false := hf 8 (by decide)
          have t11 : aA.tmps[11]? = some (.bool false) := by rw [← hA]; exact putAll_g f 11 8 slotsRq5 a0 sbRq5 (by kernel_rfl) zsz rfl g11
          exact flw_skip rfl ((wanted_of rfl 11 rfl t11).trans rfl) hS (Flz.refl _) (updF_self _ _ _)
        · intro f w1 hS hf
          generalize hA : putAll _ _ f = aA
          have h11 : f 8 = .bool false := hf 8 (by decide)
          have r11 : aA.eval (.tmp 11) = .bool false := by rw [← hA]; exact putAll_at f 11 8 slotsRq5 a0 sbRq5 (by kernel_rfl) zsz rfl h11
          exact flw_val rfl rfl (.bool false) (ex_pick (.tmp 11) (.tmp 17) _ rfl false r11 ((if_neg (by decide)).trans rfl)) hS (Flz.refl _) (updF_self _ _ _)
        · intro f w1 hS hf
          generalize hA : putAll _ _ f = aA
          have h18 : f 15 = .bool false := hf 15 (by decide)
          have r18 : aA.eval (.tmp 18) = .bool false := by rw [← hA]; exact putAll_at f 18 15 slotsRq5 a0 sbRq5 (by kernel_rfl) zsz rfl h18
          exact flw_val rfl rfl (.bool false) (ex_assign (.tmp 18) rfl r18) hS (Flz.refl _) (updF_self _ _ _)
      intro f w3 hS hf hap
      have h0 : f 0 = .pointer (some ⟨g1, 0, none⟩) := hf 0 (by decide)
      have h1 : f 1 = .int .i64 (c.1) := hf 1 (by decide)
      have h2 : f 2 = .bool false := hf 2 (by decide)
      have h3 : f 3 = .bool false := hf 3 (by decide)
      have h4 : f 4 = .pointer (some ⟨g1, 0, none⟩) := hf 4 (by decide)
      have h5 : f 5 = .int .i64 (c.1) := hf 5 (by decide)
      have h6 : f 6 = .bool false := hf 6 (by decide)
      have h7 : f 7 = .bool false := hf 7 (by decide)
      have h8 : f 8 = .bool false := hf 8 (by decide)
      have h9 : f 9 = undef := hf 9 (by decide)
      have h10 : f 10 = undef := hf 10 (by decide)
      have h11 : f 11 = undef := hf 11 (by decide)
      have h12 : f 12 = undef := hf 12 (by decide)
      have h13 : f 13 = undef := hf 13 (by decide)
      have h14 : f 14 = undef := hf 14 (by decide)
      have h15 : f 15 = .bool false := hf 15 (by decide)
      have h16 : f 16 = .bool false := hf 16 (by decide)
      clear hf hap
      clear zsz z1
      subst ha0
      simp only [slotsRq5, putAll, h0, h1, h2, h3, h4, h5, h6, h7, h8, h9, h10, h11, h12, h13, h14, h15, h16, Act.put, List.setIfInBounds_toArray, List.set_cons_zero, List.set_cons_succ]
      clear h0 h1 h2 h3 h4 h5 h6 h7 h8 h9 h10 h11 h12 h13 h14 h15 h16
      refine tl_nilN ?_
      have HF := Lib.hid (HB.out.trans (hS.mono HB.out.size))
      clear hS
      go_wp2_with fail
      go_ret
      exact ⟨⟨_, rfl, congrArg Value.bool hp.symm⟩, HF.out⟩
theorem rpure_any (c : Ce) (w : World) : Calls Tryd.prog 18 #[aggC c] w fun e w' => (∃ v, e = .returned v ∧ v = .bool (isPure c)) ∧ Below w.heap.size w w' := rpure_b c w w (Below.refl _ _)
end Go.Proofs.YtihkbblapfjobaaDoor
