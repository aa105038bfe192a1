/- Contracts: package cell's Zero, Pure; sum.Sum.Zero. Condition: the sums' tables are laid (Pure). -/
import Derived.Test.YtihkbblapfjobaaDoorWi
namespace Go.Proofs.YtihkbblapfjobaaDoor
open Go.RowKit
def waitzeroC1 (i : Nat) : List Nat := ([[], [], [0, 1], [2]] : List (List Nat)).getD i []
def slotszeroC1 : List (Nat × Nat) := [(3, 0), (4, 1), (5, 2), (2, 3)]
theorem sbzeroC1 : slotsB slotszeroC1 = true := by kernel_rfl
theorem chkzeroC1 : flwO slotszeroC1 waitzeroC1 4 (regOf Tryd.f16.body 1) = true := by kernel_rfl
set_option maxHeartbeats 4000000 in
set_option maxRecDepth 100000 in
theorem zeroC_b (c : Ce) (w w0 : World) (hB : Below w.heap.size w w0) : Calls Tryd.prog 16 #[aggC c] w0 fun e w' => (∃ v, e = .returned v ∧ v = .bool (decide (c = zC))) ∧ Below w.heap.size w w' := by
  go_enter Tryd.func16, Tryd.ntmps16
  have HB := Lib.hid hB
  clear hB
  go_upto_region 0 with fail
  refine wp_region_lit ?_
  try simp only [Act.put, List.setIfInBounds_toArray, List.set_cons_zero, List.set_cons_succ]
  refine lp_step rfl (fun K hK => wp_box_row 28 (.tmp 0) rfl (aggC c) rfl (hK _ _ ?_))
  try simp only [Act.put, List.setIfInBounds_toArray, List.set_cons_zero, List.set_cons_succ]
  show wpList _ _ _ _ _ (w0.alloc (.cells (encC c).toArray 28))
  have HST : Hid (Below w0.heap.size w0 (w0.alloc (.cells (encC c).toArray 28))) := Lib.hid ((Below.refl _ _).alloc (Nat.le_refl _) _)
  have HX1 : Hid (Has (w0.alloc (.cells (encC c).toArray 28)) w0.heap.size 28 (encC c)) := Lib.hid (Has.made' _ _ _ _ rfl)
  have HGg1 : Hid (w.heap.size ≤ w0.heap.size) := Lib.hid HB.out.size
  replace HB := Lib.hid (HB.out.trans (HST.out.mono HB.out.size))
  clear HST
  generalize w0.alloc (.cells (encC c).toArray 28) = w1 at *
  generalize w0.heap.size = g1 at *
  refine lp_pure rfl (ex_assign _ rfl rfl) ?_
  try simp only [Act.put, List.setIfInBounds_toArray, List.set_cons_zero, List.set_cons_succ]
  refine wpList_nil ?_
  go_upto_region 1 with fail
  refine wp_act (fun a0 ha0 => ?_)
  have zsz : a0.tmps.size = 6 := by rw [ha0]; rfl
  have z1 : a0.eval (.tmp 1) = .pointer (some ⟨g1, 0, none⟩) := by rw [ha0]; rfl
  refine wp_region_flwo (E := Flz) [] slotszeroC1 waitzeroC1 [Fct.val Flz 0 (aggC c), Fct.val Flz 1 (aggC zC), Fct.val Flz 2 (.bool (decide (c = zC))), Fct.val Flz 3 (.bool (decide (c = zC)))] (fun w' => Below w1.heap.size w1 w') _ 4 0 chkzeroC1 (by kernel_rfl) rfl (by kernel_rfl) (by decide) (Below.refl _ _) ?_ ?_
  · refine lt_s (lt_s (lt_s (lt_s (lt_0) ?_) ?_) ?_) ?_
    · intro f w1 hS hf
      generalize hA : putAll _ _ f = A
      have r1 : A.eval (.tmp 1) = .pointer (some ⟨g1, 0, none⟩) := by rw [← hA]; exact putAll_off f 1 slotszeroC1 a0 (by kernel_rfl) z1
      exact flw_val rfl rfl (aggC c) (ex_loadR 28 (.tmp 1) rfl ⟨g1, 0, none⟩ r1 (fun _ => by kernel_rfl) (encC c) (by rw [encC_len]; kernel_rfl) ((HX1.out.keepB hS).part (encC c) 0 (encC_all c))) hS (Flz.refl _) (updF_self _ _ _)
    · intro f w1 hS hf
      generalize hA : putAll _ _ f = A
      exact flw_val rfl rfl (aggC zC) (ex_build 28 _ rfl (encC zC).toArray [] (by kernel_rfl) (builtC0)) hS (Flz.refl _) (updF_self _ _ _)
    · intro f w1 hS hf
      generalize hA : putAll _ _ f = A
      have h3 : f 0 = aggC c := hf 0 (by decide)
      have r3 : A.eval (.tmp 3) = aggC c := by rw [← hA]; exact putAll_at f 3 0 slotszeroC1 a0 sbzeroC1 (by kernel_rfl) zsz rfl h3
      have h4 : f 1 = aggC zC := hf 1 (by decide)
      have r4 : A.eval (.tmp 4) = aggC zC := by rw [← hA]; exact putAll_at f 4 1 slotszeroC1 a0 sbzeroC1 (by kernel_rfl) zsz rfl h4
      exact flw_val rfl rfl (.bool (decide (c = zC))) (eqlC (.tmp 3) (.tmp 4) _ rfl c zC r3 r4) hS (Flz.refl _) (updF_self _ _ _)
    · intro f w1 hS hf
      generalize hA : putAll _ _ f = A
      have h5 : f 2 = .bool (decide (c = zC)) := hf 2 (by decide)
      have r5 : A.eval (.tmp 5) = .bool (decide (c = zC)) := by rw [← hA]; exact putAll_at f 5 2 slotszeroC1 a0 sbzeroC1 (by kernel_rfl) zsz rfl h5
      exact flw_val rfl rfl (.bool (decide (c = zC))) (ex_assign (.tmp 5) rfl r5) hS (Flz.refl _) (updF_self _ _ _)
  intro f w1 hS hf hap
  have h0 : f 0 = aggC c := hf 0 (by decide)
  have h1 : f 1 = aggC zC := hf 1 (by decide)
  have h2 : f 2 = .bool (decide (c = zC)) := hf 2 (by decide)
  have h3 : f 3 = .bool (decide (c = zC)) := hf 3 (by decide)
  clear hf hap
  clear zsz z1
  subst ha0
  simp only [slotszeroC1, putAll, h0, h1, h2, h3, Act.put, List.setIfInBounds_toArray, List.set_cons_zero, List.set_cons_succ]
  clear h0 h1 h2 h3
  refine tl_nil ?_
  have HF := Lib.hid (HB.out.trans (hS.mono HB.out.size))
  clear hS
  go_wp2_with fail
  go_ret
  exact ⟨⟨_, rfl, rfl⟩, HF.out⟩
theorem zeroC_any (c : Ce) (w : World) : Calls Tryd.prog 16 #[aggC c] w fun e w' => (∃ v, e = .returned v ∧ v = .bool (decide (c = zC))) ∧ Below w.heap.size w w' := zeroC_b c w w (Below.refl _ _)
def waitzeroS1 (i : Nat) : List Nat := ([[], [], [0, 1], [2]] : List (List Nat)).getD i []
def slotszeroS1 : List (Nat × Nat) := [(3, 0), (4, 1), (5, 2), (2, 3)]
theorem sbzeroS1 : slotsB slotszeroS1 = true := by kernel_rfl
theorem chkzeroS1 : flwO slotszeroS1 waitzeroS1 4 (regOf Tryd.f22.body 1) = true := by kernel_rfl
set_option maxHeartbeats 4000000 in
set_option maxRecDepth 100000 in
theorem zeroS_b (x : Su) (w w0 : World) (hB : Below w.heap.size w w0) : Calls Tryd.prog 22 #[.agg (encU x).toArray] w0 fun e w' => (∃ v, e = .returned v ∧ v = .bool (decide (x = zS))) ∧ Below w.heap.size w w' := by
  go_enter Tryd.func22, Tryd.ntmps22
  have HB := Lib.hid hB
  clear hB
  go_upto_region 0 with fail
  refine wp_region_lit ?_
  try simp only [Act.put, List.setIfInBounds_toArray, List.set_cons_zero, List.set_cons_succ]
  refine lp_step rfl (fun K hK => wp_box_row 24 (.tmp 0) rfl (.agg (encU x).toArray) rfl (hK _ _ ?_))
  try simp only [Act.put, List.setIfInBounds_toArray, List.set_cons_zero, List.set_cons_succ]
  show wpList _ _ _ _ _ (w0.alloc (.cells (encU x).toArray 24))
  have HST : Hid (Below w0.heap.size w0 (w0.alloc (.cells (encU x).toArray 24))) := Lib.hid ((Below.refl _ _).alloc (Nat.le_refl _) _)
  have HX1 : Hid (Has (w0.alloc (.cells (encU x).toArray 24)) w0.heap.size 24 (encU x)) := Lib.hid (Has.made' _ _ _ _ rfl)
  have HGg1 : Hid (w.heap.size ≤ w0.heap.size) := Lib.hid HB.out.size
  replace HB := Lib.hid (HB.out.trans (HST.out.mono HB.out.size))
  clear HST
  generalize w0.alloc (.cells (encU x).toArray 24) = w1 at *
  generalize w0.heap.size = g1 at *
  refine lp_pure rfl (ex_assign _ rfl rfl) ?_
  try simp only [Act.put, List.setIfInBounds_toArray, List.set_cons_zero, List.set_cons_succ]
  refine wpList_nil ?_
  go_upto_region 1 with fail
  refine wp_act (fun a0 ha0 => ?_)
  have zsz : a0.tmps.size = 6 := by rw [ha0]; rfl
  have z1 : a0.eval (.tmp 1) = .pointer (some ⟨g1, 0, none⟩) := by rw [ha0]; rfl
  refine wp_region_flwo (E := Flz) [] slotszeroS1 waitzeroS1 [Fct.val Flz 0 (.agg (encU x).toArray), Fct.val Flz 1 (.agg (encU zS).toArray), Fct.val Flz 2 (.bool (decide (x = zS))), Fct.val Flz 3 (.bool (decide (x = zS)))] (fun w' => Below w1.heap.size w1 w') _ 4 0 chkzeroS1 (by kernel_rfl) rfl (by kernel_rfl) (by decide) (Below.refl _ _) ?_ ?_
  · refine lt_s (lt_s (lt_s (lt_s (lt_0) ?_) ?_) ?_) ?_
    · intro f w1 hS hf
      generalize hA : putAll _ _ f = A
      have r1 : A.eval (.tmp 1) = .pointer (some ⟨g1, 0, none⟩) := by rw [← hA]; exact putAll_off f 1 slotszeroS1 a0 (by kernel_rfl) z1
      exact flw_val rfl rfl (.agg (encU x).toArray) (ex_loadR 24 (.tmp 1) rfl ⟨g1, 0, none⟩ r1 (fun _ => by kernel_rfl) (encU x) (by rw [encU_len]; kernel_rfl) ((HX1.out.keepB hS).part (encU x) 0 (encU_all' x))) hS (Flz.refl _) (updF_self _ _ _)
    · intro f w1 hS hf
      generalize hA : putAll _ _ f = A
      exact flw_val rfl rfl (.agg (encU zS).toArray) (ex_build 24 _ rfl (encU zS).toArray [] (by kernel_rfl) (by kernel_rfl)) hS (Flz.refl _) (updF_self _ _ _)
    · intro f w1 hS hf
      generalize hA : putAll _ _ f = A
      have h3 : f 0 = .agg (encU x).toArray := hf 0 (by decide)
      have r3 : A.eval (.tmp 3) = .agg (encU x).toArray := by rw [← hA]; exact putAll_at f 3 0 slotszeroS1 a0 sbzeroS1 (by kernel_rfl) zsz rfl h3
      have h4 : f 1 = .agg (encU zS).toArray := hf 1 (by decide)
      have r4 : A.eval (.tmp 4) = .agg (encU zS).toArray := by rw [← hA]; exact putAll_at f 4 1 slotszeroS1 a0 sbzeroS1 (by kernel_rfl) zsz rfl h4
      exact flw_val rfl rfl (.bool (decide (x = zS))) (eql_su 24 (.tmp 3) (.tmp 4) _ rfl x zS r3 r4 (by kernel_rfl) (by kernel_rfl)) hS (Flz.refl _) (updF_self _ _ _)
    · intro f w1 hS hf
      generalize hA : putAll _ _ f = A
      have h5 : f 2 = .bool (decide (x = zS)) := hf 2 (by decide)
      have r5 : A.eval (.tmp 5) = .bool (decide (x = zS)) := by rw [← hA]; exact putAll_at f 5 2 slotszeroS1 a0 sbzeroS1 (by kernel_rfl) zsz rfl h5
      exact flw_val rfl rfl (.bool (decide (x = zS))) (ex_assign (.tmp 5) rfl r5) hS (Flz.refl _) (updF_self _ _ _)
  intro f w1 hS hf hap
  have h0 : f 0 = .agg (encU x).toArray := hf 0 (by decide)
  have h1 : f 1 = .agg (encU zS).toArray := hf 1 (by decide)
  have h2 : f 2 = .bool (decide (x = zS)) := hf 2 (by decide)
  have h3 : f 3 = .bool (decide (x = zS)) := hf 3 (by decide)
  clear hf hap
  clear zsz z1
  subst ha0
  simp only [slotszeroS1, putAll, h0, h1, h2, h3, Act.put, List.setIfInBounds_toArray, List.set_cons_zero, List.set_cons_succ]
  clear h0 h1 h2 h3
  refine tl_nil ?_
  have HF := Lib.hid (HB.out.trans (hS.mono HB.out.size))
  clear hS
  go_wp2_with fail
  go_ret
  exact ⟨⟨_, rfl, rfl⟩, HF.out⟩
theorem zeroS_any (x : Su) (w : World) : Calls Tryd.prog 22 #[.agg (encU x).toArray] w fun e w' => (∃ v, e = .returned v ∧ v = .bool (decide (x = zS))) ∧ Below w.heap.size w w' := zeroS_b x w w (Below.refl _ _)
/-- Whether one is alone in it. -/
def isPure (c : Ce) : Bool := (decide (c.1 = 1) || decide (c.1 = -1)) && decide (c.2.2 = chkS c.2.1)
def pureV (c : Ce) : Value := if isPure c = true then .tuple #[.agg (encU c.2.1).toArray, .bool (c.1 == 1), .bool true] else .tuple #[.agg (encU zS).toArray, .bool false, .bool false]
theorem pureV_on {c : Ce} (h : isPure c = true) : pureV c = .tuple #[.agg (encU c.2.1).toArray, .bool (c.1 == 1), .bool true] := if_pos h
theorem pureV_off {c : Ce} (h : isPure c = false) : pureV c = .tuple #[.agg (encU zS).toArray, .bool false, .bool false] := if_neg (by rw [h]; simp)
theorem results_cell3A {fn : Func} {p u z : Tmp} {ty : TypeId} (h : fn.results = #[.cell p ty, .tmp u, .tmp z]) (tmps : Array Value) (w : World) (g : Nat) (t : TypeId) (cs : Array Value) (fr : Nat × Nat) (n : Nat) (E : TypeId)
    (hp : tmps.getD p undef = .pointer (some ⟨g, 0, none⟩)) (hg : w.heap[g]? = some (.cells cs t fr)) (x y : Value) (hx : tmps.getD u undef = x) (hy : tmps.getD z undef = y)
    (hu : Tryd.prog.underlying ty = some (.array n E)) (hi : (Tryd.prog.info? ty).map (·.size) = some cs.size) :
    (results fn tmps).run Tryd.prog w = .ok (.tuple #[.agg cs, x, y]) w := by
  have hp' : tmps[p]?.getD undef = .pointer (some ⟨g, 0, none⟩) := by simpa using hp
  have hx' : tmps[u]?.getD undef = x := by simpa using hx
  have hy' : tmps[z]?.getD undef = y := by simpa using hy
  simp [results, h, hp', hx', hy', asAddr, run_loadVar_row w g t ty cs fr _ hg hu rfl hi]
def waitPz1 (i : Nat) : List Nat := ([[], [0], [1], [2], [3], [3], [3], [3, 6], [7], [8], [8, 9], [8], [8, 11], [8, 12], [8, 10, 13], [8, 14]] : List (List Nat)).getD i []
def slotsPz1 : List (Nat × Nat) := [(5, 0), (6, 1), (7, 2), (8, 3), (9, 4), (10, 5), (11, 6), (12, 7), (13, 8), (14, 9), (15, 10), (16, 11), (17, 12), (18, 13), (19, 14), (20, 15)]
theorem sbPz1 : slotsB slotsPz1 = true := by kernel_rfl
theorem chkPz1 : flwB slotsPz1 waitPz1 16 (regOf Tryd.f12.body 1) = true := by kernel_rfl
def waitPz2 (i : Nat) : List Nat := ([[], [0], [1], [2], [3], [3], [3], [3, 6], [7], [8], [8, 9], [8], [8, 11], [8, 12], [8, 10, 13], [8, 14]] : List (List Nat)).getD i []
def slotsPz2 : List (Nat × Nat) := [(5, 0), (6, 1), (7, 2), (8, 3), (9, 4), (10, 5), (11, 6), (12, 7), (13, 8), (14, 9), (15, 10), (16, 11), (17, 12), (18, 13), (19, 14), (20, 15)]
theorem sbPz2 : slotsB slotsPz2 = true := by kernel_rfl
theorem chkPz2 : flwB slotsPz2 waitPz2 16 (regOf Tryd.f12.body 1) = true := by kernel_rfl
def waitPn2 (i : Nat) : List Nat := ([[], [0], [0, 1], [0, 1, 2]] : List (List Nat)).getD i []
def slotsPn2 : List (Nat × Nat) := [(21, 0), (3, 2), (4, 3)]
theorem sbPn2 : slotsB slotsPn2 = true := by kernel_rfl
theorem chkPn2 : flwO slotsPn2 waitPn2 1 (regOf Tryd.f12.body 2) = true := by kernel_rfl
def waitPz3 (i : Nat) : List Nat := ([[], [0], [1], [2], [3], [3, 4], [3, 5], [3, 6], [7], [8], [8, 9], [8], [8, 11], [8, 12], [8, 10, 13], [8, 14]] : List (List Nat)).getD i []
def slotsPz3 : List (Nat × Nat) := [(5, 0), (6, 1), (7, 2), (8, 3), (9, 4), (10, 5), (11, 6), (12, 7), (13, 8), (14, 9), (15, 10), (16, 11), (17, 12), (18, 13), (19, 14), (20, 15)]
theorem sbPz3 : slotsB slotsPz3 = true := by kernel_rfl
theorem chkPz3 : flwB slotsPz3 waitPz3 16 (regOf Tryd.f12.body 1) = true := by kernel_rfl
def waitPz4 (i : Nat) : List Nat := ([[], [0], [1], [2], [3], [3, 4], [3, 5], [3, 6], [7], [8], [8, 9], [8], [8, 11], [8, 12], [8, 10, 13], [8, 14]] : List (List Nat)).getD i []
def slotsPz4 : List (Nat × Nat) := [(5, 0), (6, 1), (7, 2), (8, 3), (9, 4), (10, 5), (11, 6), (12, 7), (13, 8), (14, 9), (15, 10), (16, 11), (17, 12), (18, 13), (19, 14), (20, 15)]
theorem sbPz4 : slotsB slotsPz4 = true := by kernel_rfl
theorem chkPz4 : flwB slotsPz4 waitPz4 16 (regOf Tryd.f12.body 1) = true := by kernel_rfl
def waitPz5 (i : Nat) : List Nat := ([[], [0], [1], [2], [3], [3, 4], [3, 5], [3, 6], [7], [8], [8], [8], [8], [8], [8], [8, 14]] : List (List Nat)).getD i []
def slotsPz5 : List (Nat × Nat) := [(5, 0), (6, 1), (7, 2), (8, 3), (9, 4), (10, 5), (11, 6), (12, 7), (13, 8), (14, 9), (15, 10), (16, 11), (17, 12), (18, 13), (19, 14), (20, 15)]
theorem sbPz5 : slotsB slotsPz5 = true := by kernel_rfl
theorem chkPz5 : flwB slotsPz5 waitPz5 16 (regOf Tryd.f12.body 1) = true := by kernel_rfl
set_option maxHeartbeats 4000000 in
set_option maxRecDepth 100000 in
theorem pure_b (c : Ce) (w w0 : World) (hB : Below w.heap.size w w0) (hL : Laid w) : Calls Tryd.prog 12 #[aggC c] w0 fun e w' => (∃ v, e = .returned v ∧ v = pureV c) ∧ Below w.heap.size w w' := by
  go_enter Tryd.func12, Tryd.ntmps12
  have HB := Lib.hid hB
  clear hB
  have HL := Lib.hid hL
  have HSZ := Lib.hid hL.size
  clear hL
  go_upto_region 0 with fail
  refine wp_region_lit ?_
  try simp only [Act.put, List.setIfInBounds_toArray, List.set_cons_zero, List.set_cons_succ]
  refine lp_step rfl (fun K hK => wp_box_row 28 (.tmp 0) rfl (aggC c) rfl (hK _ _ ?_))
  try simp only [Act.put, List.setIfInBounds_toArray, List.set_cons_zero, List.set_cons_succ]
  show wpList _ _ _ _ _ (w0.alloc (.cells (encC c).toArray 28))
  have HST : Hid (Below w0.heap.size w0 (w0.alloc (.cells (encC c).toArray 28))) := Lib.hid ((Below.refl _ _).alloc (Nat.le_refl _) _)
  have HX1 : Hid (Has (w0.alloc (.cells (encC c).toArray 28)) w0.heap.size 28 (encC c)) := Lib.hid (Has.made' _ _ _ _ rfl)
  have HGg1 : Hid (w.heap.size ≤ w0.heap.size) := Lib.hid HB.out.size
  replace HB := Lib.hid (HB.out.trans (HST.out.mono HB.out.size))
  clear HST
  generalize w0.alloc (.cells (encC c).toArray 28) = w1 at *
  generalize w0.heap.size = g1 at *
  refine lp_step rfl (fun K hK => wp_alloc_row 24 rfl (.agg (encU zS).toArray) (fun w => by kernel_rfl) (hK _ _ ?_))
  try simp only [Act.put, List.setIfInBounds_toArray, List.set_cons_zero, List.set_cons_succ]
  show wpList _ _ _ _ _ (w1.alloc (.cells (encU zS).toArray 24))
  have HST : Hid (Below w1.heap.size w1 (w1.alloc (.cells (encU zS).toArray 24))) := Lib.hid ((Below.refl _ _).alloc (Nat.le_refl _) _)
  have HX2 : Hid (Has (w1.alloc (.cells (encU zS).toArray 24)) w1.heap.size 24 (encU zS)) := Lib.hid (Has.made' _ _ _ _ rfl)
  replace HX1 := Lib.hid (HX1.out.keepB HST.out)
  have HGg2 : Hid (w.heap.size ≤ w1.heap.size) := Lib.hid HB.out.size
  replace HB := Lib.hid (HB.out.trans (HST.out.mono HB.out.size))
  clear HST
  generalize w1.alloc (.cells (encU zS).toArray 24) = w2 at *
  generalize w1.heap.size = g2 at *
  refine lp_pure rfl (ex_assign _ rfl rfl) ?_
  try simp only [Act.put, List.setIfInBounds_toArray, List.set_cons_zero, List.set_cons_succ]
  refine lp_pure rfl (ex_assign _ rfl rfl) ?_
  try simp only [Act.put, List.setIfInBounds_toArray, List.set_cons_zero, List.set_cons_succ]
  refine wpList_nil ?_
  go_upto_region 1 with fail
  have HST : Hid (Below w2.heap.size w2 w2.drew) := Lib.hid (Below.refl _ _).drew
  replace HX1 := Lib.hid (HX1.out.keepB HST.out)
  replace HX2 := Lib.hid (HX2.out.keepB HST.out)
  replace HB := Lib.hid (HB.out.trans (HST.out.mono HB.out.size))
  clear HST
  by_cases k1 : c.1 = 1
  · have e1 : (c.1 != (1 : Int)) = false := by simp [k1]
    by_cases k3 : c.2.2 = chkS c.2.1
    · have e3 : (!decide (c.2.2 = chkS c.2.1)) = false := by simp [k3]
      have hp : isPure c = true := by simp [isPure, k1, k3]
      refine wp_act (fun a0 ha0 => ?_)
      have zsz : a0.tmps.size = 27 := by rw [ha0]; rfl
      have z1 : a0.eval (.tmp 1) = .pointer (some ⟨g1, 0, none⟩) := by rw [ha0]; rfl
      refine wp_region_flw (E := Flz) [] slotsPz1 waitPz1 [Fct.val Flz 0 (.pointer (some ⟨g1, 0, none⟩)), Fct.val Flz 1 (.int .i64 (c.1)), Fct.val Flz 2 (.bool false), Fct.val Flz 3 (.bool false), Fct.val Flz 4 (undef), Fct.val Flz 5 (undef), Fct.val Flz 6 (undef), Fct.val Flz 7 (.bool false), Fct.val Flz 8 (.bool false), Fct.val Flz 9 (.pointer (some ⟨g1, 33, none⟩)), Fct.val Flz 10 (.agg (encU c.2.2).toArray), Fct.val Flz 11 (.pointer (some ⟨g1, 1, none⟩)), Fct.val Flz 12 (.agg (encU c.2.1).toArray), Fct.val Flz 13 (.agg (encU (chkS c.2.1)).toArray), Fct.val Flz 14 (.bool false), Fct.val Flz 15 (.bool false)] (fun w' => Below w2.drew.heap.size w2.drew w') _ 16 0 chkPz1 (by kernel_rfl) rfl (by kernel_rfl) (by kernel_rfl) (by decide) (Below.refl _ _) ?_ ?_
      · refine lt_s (lt_s (lt_s (lt_s (lt_s (lt_s (lt_s (lt_s (lt_s (lt_s (lt_s (lt_s (lt_s (lt_s (lt_s (lt_s (lt_0) ?_) ?_) ?_) ?_) ?_) ?_) ?_) ?_) ?_) ?_) ?_) ?_) ?_) ?_) ?_) ?_
        · intro f w1 hS hf
          generalize hA : putAll _ _ f = A
          have r1 : A.eval (.tmp 1) = .pointer (some ⟨g1, 0, none⟩) := by rw [← hA]; exact putAll_off f 1 slotsPz1 a0 (by kernel_rfl) z1
          exact flw_val rfl rfl (.pointer (some ⟨g1, 0, none⟩)) (fld0C (.tmp 1) rfl g1 r1) hS (Flz.refl _) (updF_self _ _ _)
        · intro f w1 hS hf
          generalize hA : putAll _ _ f = A
          have h5 : f 0 = .pointer (some ⟨g1, 0, none⟩) := hf 0 (by decide)
          have r5 : A.eval (.tmp 5) = .pointer (some ⟨g1, 0, none⟩) := by rw [← hA]; exact putAll_at f 5 0 slotsPz1 a0 sbPz1 (by kernel_rfl) zsz rfl h5
          exact flw_val rfl rfl (.int .i64 (c.1)) (ex_load1 2 (.tmp 5) rfl ⟨g1, 0, none⟩ r5 (fun _ => by kernel_rfl) ((HX1.out.keepB hS).cellv (encC_0 c))) hS (Flz.refl _) (updF_self _ _ _)
        · intro f w1 hS hf
          generalize hA : putAll _ _ f = A
          have h6 : f 1 = .int .i64 (c.1) := hf 1 (by decide)
          have r6 : A.eval (.tmp 6) = .int .i64 (c.1) := by rw [← hA]; exact putAll_at f 6 1 slotsPz1 a0 sbPz1 (by kernel_rfl) zsz rfl h6
          exact flw_val rfl rfl (.bool false) (Eq.trans (ex_int .neq _ _ (.tmp 6) _ rfl .i64 c.1 1 r6 rfl (.bool (c.1 != (1 : Int))) (fun _ => rfl)) (by rw [e1])) hS (Flz.refl _) (updF_self _ _ _)
        · intro f w1 hS hf
          generalize hA : putAll _ _ f = A
          have h7 : f 2 = .bool false := hf 2 (by decide)
          have r7 : A.eval (.tmp 7) = .bool false := by rw [← hA]; exact putAll_at f 7 2 slotsPz1 a0 sbPz1 (by kernel_rfl) zsz rfl h7
          exact flw_val rfl rfl (.bool false) (ex_move (.tmp 7) rfl r7) hS (Flz.refl _) (updF_self _ _ _)
        · intro f w1 hS hf
          generalize hA : putAll _ _ f = A
          have g8 : f 3 = .bool false := hf 3 (by decide)
          have t8 : A.tmps[8]? = some (.bool false) := by rw [← hA]; exact putAll_g f 8 3 slotsPz1 a0 sbPz1 (by kernel_rfl) zsz rfl g8
          exact flw_skip rfl ((wanted_of rfl 8 rfl t8).trans rfl) hS (Flz.refl _) (updF_self _ _ _)
        · intro f w1 hS hf
          generalize hA : putAll _ _ f = A
          have g8 : f 3 = .bool false := hf 3 (by decide)
          have t8 : A.tmps[8]? = some (.bool false) := by rw [← hA]; exact putAll_g f 8 3 slotsPz1 a0 sbPz1 (by kernel_rfl) zsz rfl g8
          exact flw_skip rfl ((wanted_of rfl 8 rfl t8).trans rfl) hS (Flz.refl _) (updF_self _ _ _)
        · intro f w1 hS hf
          generalize hA : putAll _ _ f = A
          have g8 : f 3 = .bool false := hf 3 (by decide)
          have t8 : A.tmps[8]? = some (.bool false) := by rw [← hA]; exact putAll_g f 8 3 slotsPz1 a0 sbPz1 (by kernel_rfl) zsz rfl g8
          exact flw_skip rfl ((wanted_of rfl 8 rfl t8).trans rfl) hS (Flz.refl _) (updF_self _ _ _)
        · intro f w1 hS hf
          generalize hA : putAll _ _ f = A
          have h8 : f 3 = .bool false := hf 3 (by decide)
          have r8 : A.eval (.tmp 8) = .bool false := by rw [← hA]; exact putAll_at f 8 3 slotsPz1 a0 sbPz1 (by kernel_rfl) zsz rfl h8
          exact flw_val rfl rfl (.bool false) (ex_pick (.tmp 8) (.tmp 11) _ rfl false r8 ((if_neg (by decide)).trans rfl)) hS (Flz.refl _) (updF_self _ _ _)
        · intro f w1 hS hf
          generalize hA : putAll _ _ f = A
          have h12 : f 7 = .bool false := hf 7 (by decide)
          have r12 : A.eval (.tmp 12) = .bool false := by rw [← hA]; exact putAll_at f 12 7 slotsPz1 a0 sbPz1 (by kernel_rfl) zsz rfl h12
          exact flw_val rfl rfl (.bool false) (ex_move (.tmp 12) rfl r12) hS (Flz.refl _) (updF_self _ _ _)
        · intro f w1 hS hf
          generalize hA : putAll _ _ f = A
          have g13 : f 8 = .bool false := hf 8 (by decide)
          have t13 : A.tmps[13]? = some (.bool false) := by rw [← hA]; exact putAll_g f 13 8 slotsPz1 a0 sbPz1 (by kernel_rfl) zsz rfl g13
          have r1 : A.eval (.tmp 1) = .pointer (some ⟨g1, 0, none⟩) := by rw [← hA]; exact putAll_off f 1 slotsPz1 a0 (by kernel_rfl) z1
          exact flw_val rfl ((wanted_of rfl 13 rfl t13).trans rfl) (.pointer (some ⟨g1, 33, none⟩)) (fld2C (.tmp 1) rfl g1 r1) hS (Flz.refl _) (updF_self _ _ _)
        · intro f w1 hS hf
          generalize hA : putAll _ _ f = A
          have g13 : f 8 = .bool false := hf 8 (by decide)
          have t13 : A.tmps[13]? = some (.bool false) := by rw [← hA]; exact putAll_g f 13 8 slotsPz1 a0 sbPz1 (by kernel_rfl) zsz rfl g13
          have h14 : f 9 = .pointer (some ⟨g1, 33, none⟩) := hf 9 (by decide)
          have r14 : A.eval (.tmp 14) = .pointer (some ⟨g1, 33, none⟩) := by rw [← hA]; exact putAll_at f 14 9 slotsPz1 a0 sbPz1 (by kernel_rfl) zsz rfl h14
          exact flw_val rfl ((wanted_of rfl 13 rfl t13).trans rfl) (.agg (encU c.2.2).toArray) (ex_loadR 24 (.tmp 14) rfl ⟨g1, 33, none⟩ r14 (fun _ => by kernel_rfl) (encU c.2.2) (by rw [encU_len]; kernel_rfl) ((HX1.out.keepB hS).part (encU c.2.2) 33 (encC_chk c))) hS (Flz.refl _) (updF_self _ _ _)
        · intro f w1 hS hf
          generalize hA : putAll _ _ f = A
          have g13 : f 8 = .bool false := hf 8 (by decide)
          have t13 : A.tmps[13]? = some (.bool false) := by rw [← hA]; exact putAll_g f 13 8 slotsPz1 a0 sbPz1 (by kernel_rfl) zsz rfl g13
          have r1 : A.eval (.tmp 1) = .pointer (some ⟨g1, 0, none⟩) := by rw [← hA]; exact putAll_off f 1 slotsPz1 a0 (by kernel_rfl) z1
          exact flw_val rfl ((wanted_of rfl 13 rfl t13).trans rfl) (.pointer (some ⟨g1, 1, none⟩)) (fld1C (.tmp 1) rfl g1 r1) hS (Flz.refl _) (updF_self _ _ _)
        · intro f w1 hS hf
          generalize hA : putAll _ _ f = A
          have g13 : f 8 = .bool false := hf 8 (by decide)
          have t13 : A.tmps[13]? = some (.bool false) := by rw [← hA]; exact putAll_g f 13 8 slotsPz1 a0 sbPz1 (by kernel_rfl) zsz rfl g13
          have h16 : f 11 = .pointer (some ⟨g1, 1, none⟩) := hf 11 (by decide)
          have r16 : A.eval (.tmp 16) = .pointer (some ⟨g1, 1, none⟩) := by rw [← hA]; exact putAll_at f 16 11 slotsPz1 a0 sbPz1 (by kernel_rfl) zsz rfl h16
          exact flw_val rfl ((wanted_of rfl 13 rfl t13).trans rfl) (.agg (encU c.2.1).toArray) (ex_loadR 24 (.tmp 16) rfl ⟨g1, 1, none⟩ r16 (fun _ => by kernel_rfl) (encU c.2.1) (by rw [encU_len]; kernel_rfl) ((HX1.out.keepB hS).part (encU c.2.1) 1 (encC_key c))) hS (Flz.refl _) (updF_self _ _ _)
        · intro f w1 hS hf
          generalize hA : putAll _ _ f = A
          have g13 : f 8 = .bool false := hf 8 (by decide)
          have t13 : A.tmps[13]? = some (.bool false) := by rw [← hA]; exact putAll_g f 13 8 slotsPz1 a0 sbPz1 (by kernel_rfl) zsz rfl g13
          have h17 : f 12 = .agg (encU c.2.1).toArray := hf 12 (by decide)
          have r17 : A.eval (.tmp 17) = .agg (encU c.2.1).toArray := by rw [← hA]; exact putAll_at f 17 12 slotsPz1 a0 sbPz1 (by kernel_rfl) zsz rfl h17
          exact flw_call rfl ((wanted_of rfl 13 rfl t13).trans rfl) 15 #[(.tmp 17)] _ rfl #[.agg (encU c.2.1).toArray] (by simp only [List.map_toArray, List.map_cons, List.map_nil, r17]) (fun w => by kernel_rfl) (fun v _ => v = .agg (encU (chkS c.2.1)).toArray) (chk_any c.2.1 w1 (HL.out.keep (HB.out.trans (hS.mono HB.out.size)) HSZ.out)) (fun v w' hr hb => ⟨hS.trans (hb.mono hS.size), Flz.of hb, (updF_self _ _ _).trans hr⟩)
        · intro f w1 hS hf
          generalize hA : putAll _ _ f = A
          have g13 : f 8 = .bool false := hf 8 (by decide)
          have t13 : A.tmps[13]? = some (.bool false) := by rw [← hA]; exact putAll_g f 13 8 slotsPz1 a0 sbPz1 (by kernel_rfl) zsz rfl g13
          have h15 : f 10 = .agg (encU c.2.2).toArray := hf 10 (by decide)
          have r15 : A.eval (.tmp 15) = .agg (encU c.2.2).toArray := by rw [← hA]; exact putAll_at f 15 10 slotsPz1 a0 sbPz1 (by kernel_rfl) zsz rfl h15
          have h18 : f 13 = .agg (encU (chkS c.2.1)).toArray := hf 13 (by decide)
          have r18 : A.eval (.tmp 18) = .agg (encU (chkS c.2.1)).toArray := by rw [← hA]; exact putAll_at f 18 13 slotsPz1 a0 sbPz1 (by kernel_rfl) zsz rfl h18
          exact flw_val rfl ((wanted_of rfl 13 rfl t13).trans rfl) (.bool false) (Eq.trans (neq_su 24 (.tmp 15) (.tmp 18) _ rfl c.2.2 (chkS c.2.1) r15 r18 (by kernel_rfl) (by kernel_rfl)) (by rw [e3])) hS (Flz.refl _) (updF_self _ _ _)
        · intro f w1 hS hf
          generalize hA : putAll _ _ f = A
          have h13 : f 8 = .bool false := hf 8 (by decide)
          have r13 : A.eval (.tmp 13) = .bool false := by rw [← hA]; exact putAll_at f 13 8 slotsPz1 a0 sbPz1 (by kernel_rfl) zsz rfl h13
          have h19 : f 14 = .bool false := hf 14 (by decide)
          have r19 : A.eval (.tmp 19) = .bool false := by rw [← hA]; exact putAll_at f 19 14 slotsPz1 a0 sbPz1 (by kernel_rfl) zsz rfl h19
          exact flw_val rfl rfl (.bool false) (ex_pick (.tmp 13) _ (.tmp 19) rfl false r13 ((if_neg (by decide)).trans r19)) hS (Flz.refl _) (updF_self _ _ _)
      intro f w3 hS hf hap
      have h0 : f 0 = .pointer (some ⟨g1, 0, none⟩) := hf 0 (by decide)
      have h1 : f 1 = .int .i64 (c.1) := hf 1 (by decide)
      have h2 : f 2 = .bool false := hf 2 (by decide)
      have h3 : f 3 = .bool false := hf 3 (by decide)
      have h4 : f 4 = undef := hf 4 (by decide)
      have h5 : f 5 = undef := hf 5 (by decide)
      have h6 : f 6 = undef := hf 6 (by decide)
      have h7 : f 7 = .bool false := hf 7 (by decide)
      have h8 : f 8 = .bool false := hf 8 (by decide)
      have h9 : f 9 = .pointer (some ⟨g1, 33, none⟩) := hf 9 (by decide)
      have h10 : f 10 = .agg (encU c.2.2).toArray := hf 10 (by decide)
      have h11 : f 11 = .pointer (some ⟨g1, 1, none⟩) := hf 11 (by decide)
      have h12 : f 12 = .agg (encU c.2.1).toArray := hf 12 (by decide)
      have h13 : f 13 = .agg (encU (chkS c.2.1)).toArray := hf 13 (by decide)
      have h14 : f 14 = .bool false := hf 14 (by decide)
      have h15 : f 15 = .bool false := hf 15 (by decide)
      clear hf hap
      clear zsz z1
      subst ha0
      simp only [slotsPz1, putAll, h0, h1, h2, h3, h4, h5, h6, h7, h8, h9, h10, h11, h12, h13, h14, h15, Act.put, List.setIfInBounds_toArray, List.set_cons_zero, List.set_cons_succ]
      clear h0 h1 h2 h3 h4 h5 h6 h7 h8 h9 h10 h11 h12 h13 h14 h15
      refine tl_nilN ?_
      replace HX1 := Lib.hid (HX1.out.keepB hS)
      replace HX2 := Lib.hid (HX2.out.keepB hS)
      replace HB := Lib.hid (HB.out.trans (hS.mono HB.out.size))
      clear hS
      go_upto_region 3 with fail
      refine wp_region_ors (fun w' => Has w' g1 28 (encC c) ∧ Below w.heap.size w w') [(0, true), (1, true), (2, true), (3, true), (4, true), (5, false), (6, true), (7, true)] (by kernel_rfl) (by kernel_rfl) (by kernel_rfl) ⟨HX1.out, HB.out.drew⟩ ?_
      have HX2D : Hid (Has w3.drew g2 24 (encU zS)) := Lib.hid HX2.out
      have HBD := Lib.hid HB.out.drew
      have HNE : Hid (g1 ≠ g2) := Lib.hid (HX1.out.apartT HX2.out (by decide))
      refine ors_pure (by kernel_rfl) (fun w' hw' => fld1C (.tmp 1) rfl g1 rfl) ?_
      try simp only [Act.put, List.setIfInBounds_toArray, List.set_cons_zero, List.set_cons_succ]
      refine ors_pure (by kernel_rfl) (fun w' hw' => ex_loadR 24 (.tmp 22) rfl ⟨g1, 1, none⟩ rfl (fun _ => by kernel_rfl) (encU c.2.1) (by rw [encU_len]; kernel_rfl) (hw'.1.part (encU c.2.1) 1 (encC_key c))) ?_
      try simp only [Act.put, List.setIfInBounds_toArray, List.set_cons_zero, List.set_cons_succ]
      refine ors_pure (by kernel_rfl) (fun w' hw' => fld0C (.tmp 1) rfl g1 rfl) ?_
      try simp only [Act.put, List.setIfInBounds_toArray, List.set_cons_zero, List.set_cons_succ]
      refine ors_pure (by kernel_rfl) (fun w' hw' => ex_load1 2 (.tmp 24) rfl ⟨g1, 0, none⟩ rfl (fun _ => by kernel_rfl) (hw'.1.cellv (encC_0 c))) ?_
      try simp only [Act.put, List.setIfInBounds_toArray, List.set_cons_zero, List.set_cons_succ]
      refine ors_pure (by kernel_rfl) (fun w' hw' => ex_int .eql _ _ (.tmp 25) _ rfl .i64 c.1 1 rfl rfl (.bool (c.1 == 1)) (fun _ => rfl)) ?_
      try simp only [Act.put, List.setIfInBounds_toArray, List.set_cons_zero, List.set_cons_succ]
      refine ors_step (by kernel_rfl) (fun K hK => wp_store_row 24 (.tmp 2) (.tmp 23) rfl g2 (encU c.2.1).toArray rfl rfl 24 (encU zS).toArray HX2D.out (by rw [List.size_toArray, encU_len]; kernel_rfl) (by rw [List.size_toArray, List.size_toArray, encU_len, encU_len]) (encU_all _) (hK _ _ ⟨⟨?_, ?_⟩, ?_⟩))
      · exact (setRow_other _ g2 g1 _ HNE.out).trans HX1.out
      · exact below_row HBD.out HGg2.out _
      have HP : Hid (Has (w3.drew.setRow g2 (encU c.2.1).toArray) g2 24 (encU c.2.1)) := Lib.hid (HX2D.out.rowl _)
      have HF := Lib.hid (below_row HBD.out HGg2.out (encU c.2.1).toArray)
      simp only [Act.put]
      refine ors_pure (by kernel_rfl) (fun w' hw' => ex_assign (.tmp 26) rfl rfl) ?_
      try simp only [Act.put, List.setIfInBounds_toArray, List.set_cons_zero, List.set_cons_succ]
      refine ors_pure (by kernel_rfl) (fun w' hw' => ex_assign _ rfl rfl) ?_
      try simp only [Act.put, List.setIfInBounds_toArray, List.set_cons_zero, List.set_cons_succ]
      refine ors_nil ?_
      go_wp2_with fail
      (try simp only [Exit.inBlock, Exit.then])
      refine bodyPost_ret (v := .tuple #[.agg (encU c.2.1).toArray, .bool (c.1 == 1), .bool true]) ?_ rfl ⟨⟨_, rfl, (pureV_on hp).symm⟩, HF.out⟩
      exact results_cell3A rfl _ _ g2 24 _ (0, 0) 32 5 rfl HP.out _ _ rfl rfl Tryd.underlying24 (by rw [List.size_toArray, encU_len]; kernel_rfl)
    · have e3 : (!decide (c.2.2 = chkS c.2.1)) = true := by simp [k3]
      have hp : isPure c = false := by simp [isPure, k3]
      refine wp_act (fun a0 ha0 => ?_)
      have zsz : a0.tmps.size = 27 := by rw [ha0]; rfl
      have z1 : a0.eval (.tmp 1) = .pointer (some ⟨g1, 0, none⟩) := by rw [ha0]; rfl
      refine wp_region_flw (E := Flz) [] slotsPz2 waitPz2 [Fct.val Flz 0 (.pointer (some ⟨g1, 0, none⟩)), Fct.val Flz 1 (.int .i64 (c.1)), Fct.val Flz 2 (.bool false), Fct.val Flz 3 (.bool false), Fct.val Flz 4 (undef), Fct.val Flz 5 (undef), Fct.val Flz 6 (undef), Fct.val Flz 7 (.bool false), Fct.val Flz 8 (.bool false), Fct.val Flz 9 (.pointer (some ⟨g1, 33, none⟩)), Fct.val Flz 10 (.agg (encU c.2.2).toArray), Fct.val Flz 11 (.pointer (some ⟨g1, 1, none⟩)), Fct.val Flz 12 (.agg (encU c.2.1).toArray), Fct.val Flz 13 (.agg (encU (chkS c.2.1)).toArray), Fct.val Flz 14 (.bool true), Fct.val Flz 15 (.bool true)] (fun w' => Below w2.drew.heap.size w2.drew w') _ 16 0 chkPz2 (by kernel_rfl) rfl (by kernel_rfl) (by kernel_rfl) (by decide) (Below.refl _ _) ?_ ?_
      · refine lt_s (lt_s (lt_s (lt_s (lt_s (lt_s (lt_s (lt_s (lt_s (lt_s (lt_s (lt_s (lt_s (lt_s (lt_s (lt_s (lt_0) ?_) ?_) ?_) ?_) ?_) ?_) ?_) ?_) ?_) ?_) ?_) ?_) ?_) ?_) ?_) ?_
        · intro f w1 hS hf
          generalize hA : putAll _ _ f = A
          have r1 : A.eval (.tmp 1) = .pointer (some ⟨g1, 0, none⟩) := by rw [← hA]; exact putAll_off f 1 slotsPz2 a0 (by kernel_rfl) z1
          exact flw_val rfl rfl (.pointer (some ⟨g1, 0, none⟩)) (fld0C (.tmp 1) rfl g1 r1) hS (Flz.refl _) (updF_self _ _ _)
        · intro f w1 hS hf
          generalize hA : putAll _ _ f = A
          have h5 : f 0 = .pointer (some ⟨g1, 0, none⟩) := hf 0 (by decide)
          have r5 : A.eval (.tmp 5) = .pointer (some ⟨g1, 0, none⟩) := by rw [← hA]; exact putAll_at f 5 0 slotsPz2 a0 sbPz2 (by kernel_rfl) zsz rfl h5
          exact flw_val rfl rfl (.int .i64 (c.1)) (ex_load1 2 (.tmp 5) rfl ⟨g1, 0, none⟩ r5 (fun _ => by kernel_rfl) ((HX1.out.keepB hS).cellv (encC_0 c))) hS (Flz.refl _) (updF_self _ _ _)
        · intro f w1 hS hf
          generalize hA : putAll _ _ f = A
          have h6 : f 1 = .int .i64 (c.1) := hf 1 (by decide)
          have r6 : A.eval (.tmp 6) = .int .i64 (c.1) := by rw [← hA]; exact putAll_at f 6 1 slotsPz2 a0 sbPz2 (by kernel_rfl) zsz rfl h6
          exact flw_val rfl rfl (.bool false) (Eq.trans (ex_int .neq _ _ (.tmp 6) _ rfl .i64 c.1 1 r6 rfl (.bool (c.1 != (1 : Int))) (fun _ => rfl)) (by rw [e1])) hS (Flz.refl _) (updF_self _ _ _)
        · intro f w1 hS hf
          generalize hA : putAll _ _ f = A
          have h7 : f 2 = .bool false := hf 2 (by decide)
          have r7 : A.eval (.tmp 7) = .bool false := by rw [← hA]; exact putAll_at f 7 2 slotsPz2 a0 sbPz2 (by kernel_rfl) zsz rfl h7
          exact flw_val rfl rfl (.bool false) (ex_move (.tmp 7) rfl r7) hS (Flz.refl _) (updF_self _ _ _)
        · intro f w1 hS hf
          generalize hA : putAll _ _ f = A
          have g8 : f 3 = .bool false := hf 3 (by decide)
          have t8 : A.tmps[8]? = some (.bool false) := by rw [← hA]; exact putAll_g f 8 3 slotsPz2 a0 sbPz2 (by kernel_rfl) zsz rfl g8
          exact flw_skip rfl ((wanted_of rfl 8 rfl t8).trans rfl) hS (Flz.refl _) (updF_self _ _ _)
        · intro f w1 hS hf
          generalize hA : putAll _ _ f = A
          have g8 : f 3 = .bool false := hf 3 (by decide)
          have t8 : A.tmps[8]? = some (.bool false) := by rw [← hA]; exact putAll_g f 8 3 slotsPz2 a0 sbPz2 (by kernel_rfl) zsz rfl g8
          exact flw_skip rfl ((wanted_of rfl 8 rfl t8).trans rfl) hS (Flz.refl _) (updF_self _ _ _)
        · intro f w1 hS hf
          generalize hA : putAll _ _ f = A
          have g8 : f 3 = .bool false := hf 3 (by decide)
          have t8 : A.tmps[8]? = some (.bool false) := by rw [← hA]; exact putAll_g f 8 3 slotsPz2 a0 sbPz2 (by kernel_rfl) zsz rfl g8
          exact flw_skip rfl ((wanted_of rfl 8 rfl t8).trans rfl) hS (Flz.refl _) (updF_self _ _ _)
        · intro f w1 hS hf
          generalize hA : putAll _ _ f = A
          have h8 : f 3 = .bool false := hf 3 (by decide)
          have r8 : A.eval (.tmp 8) = .bool false := by rw [← hA]; exact putAll_at f 8 3 slotsPz2 a0 sbPz2 (by kernel_rfl) zsz rfl h8
          exact flw_val rfl rfl (.bool false) (ex_pick (.tmp 8) (.tmp 11) _ rfl false r8 ((if_neg (by decide)).trans rfl)) hS (Flz.refl _) (updF_self _ _ _)
        · intro f w1 hS hf
          generalize hA : putAll _ _ f = A
          have h12 : f 7 = .bool false := hf 7 (by decide)
          have r12 : A.eval (.tmp 12) = .bool false := by rw [← hA]; exact putAll_at f 12 7 slotsPz2 a0 sbPz2 (by kernel_rfl) zsz rfl h12
          exact flw_val rfl rfl (.bool false) (ex_move (.tmp 12) rfl r12) hS (Flz.refl _) (updF_self _ _ _)
        · intro f w1 hS hf
          generalize hA : putAll _ _ f = A
          have g13 : f 8 = .bool false := hf 8 (by decide)
          have t13 : A.tmps[13]? = some (.bool false) := by rw [← hA]; exact putAll_g f 13 8 slotsPz2 a0 sbPz2 (by kernel_rfl) zsz rfl g13
          have r1 : A.eval (.tmp 1) = .pointer (some ⟨g1, 0, none⟩) := by rw [← hA]; exact putAll_off f 1 slotsPz2 a0 (by kernel_rfl) z1
          exact flw_val rfl ((wanted_of rfl 13 rfl t13).trans rfl) (.pointer (some ⟨g1, 33, none⟩)) (fld2C (.tmp 1) rfl g1 r1) hS (Flz.refl _) (updF_self _ _ _)
        · intro f w1 hS hf
          generalize hA : putAll _ _ f = A
          have g13 : f 8 = .bool false := hf 8 (by decide)
          have t13 : A.tmps[13]? = some (.bool false) := by rw [← hA]; exact putAll_g f 13 8 slotsPz2 a0 sbPz2 (by kernel_rfl) zsz rfl g13
          have h14 : f 9 = .pointer (some ⟨g1, 33, none⟩) := hf 9 (by decide)
          have r14 : A.eval (.tmp 14) = .pointer (some ⟨g1, 33, none⟩) := by rw [← hA]; exact putAll_at f 14 9 slotsPz2 a0 sbPz2 (by kernel_rfl) zsz rfl h14
          exact flw_val rfl ((wanted_of rfl 13 rfl t13).trans rfl) (.agg (encU c.2.2).toArray) (ex_loadR 24 (.tmp 14) rfl ⟨g1, 33, none⟩ r14 (fun _ => by kernel_rfl) (encU c.2.2) (by rw [encU_len]; kernel_rfl) ((HX1.out.keepB hS).part (encU c.2.2) 33 (encC_chk c))) hS (Flz.refl _) (updF_self _ _ _)
        · intro f w1 hS hf
          generalize hA : putAll _ _ f = A
          have g13 : f 8 = .bool false := hf 8 (by decide)
          have t13 : A.tmps[13]? = some (.bool false) := by rw [← hA]; exact putAll_g f 13 8 slotsPz2 a0 sbPz2 (by kernel_rfl) zsz rfl g13
          have r1 : A.eval (.tmp 1) = .pointer (some ⟨g1, 0, none⟩) := by rw [← hA]; exact putAll_off f 1 slotsPz2 a0 (by kernel_rfl) z1
          exact flw_val rfl ((wanted_of rfl 13 rfl t13).trans rfl) (.pointer (some ⟨g1, 1, none⟩)) (fld1C (.tmp 1) rfl g1 r1) hS (Flz.refl _) (updF_self _ _ _)
        · intro f w1 hS hf
          generalize hA : putAll _ _ f = A
          have g13 : f 8 = .bool false := hf 8 (by decide)
          have t13 : A.tmps[13]? = some (.bool false) := by rw [← hA]; exact putAll_g f 13 8 slotsPz2 a0 sbPz2 (by kernel_rfl) zsz rfl g13
          have h16 : f 11 = .pointer (some ⟨g1, 1, none⟩) := hf 11 (by decide)
          have r16 : A.eval (.tmp 16) = .pointer (some ⟨g1, 1, none⟩) := by rw [← hA]; exact putAll_at f 16 11 slotsPz2 a0 sbPz2 (by kernel_rfl) zsz rfl h16
          exact flw_val rfl ((wanted_of rfl 13 rfl t13).trans rfl) (.agg (encU c.2.1).toArray) (ex_loadR 24 (.tmp 16) rfl ⟨g1, 1, none⟩ r16 (fun _ => by kernel_rfl) (encU c.2.1) (by rw [encU_len]; kernel_rfl) ((HX1.out.keepB hS).part (encU c.2.1) 1 (encC_key c))) hS (Flz.refl _) (updF_self _ _ _)
        · intro f w1 hS hf
          generalize hA : putAll _ _ f = A
          have g13 : f 8 = .bool false := hf 8 (by decide)
          have t13 : A.tmps[13]? = some (.bool false) := by rw [← hA]; exact putAll_g f 13 8 slotsPz2 a0 sbPz2 (by kernel_rfl) zsz rfl g13
          have h17 : f 12 = .agg (encU c.2.1).toArray := hf 12 (by decide)
          have r17 : A.eval (.tmp 17) = .agg (encU c.2.1).toArray := by rw [← hA]; exact putAll_at f 17 12 slotsPz2 a0 sbPz2 (by kernel_rfl) zsz rfl h17
          exact flw_call rfl ((wanted_of rfl 13 rfl t13).trans rfl) 15 #[(.tmp 17)] _ rfl #[.agg (encU c.2.1).toArray] (by simp only [List.map_toArray, List.map_cons, List.map_nil, r17]) (fun w => by kernel_rfl) (fun v _ => v = .agg (encU (chkS c.2.1)).toArray) (chk_any c.2.1 w1 (HL.out.keep (HB.out.trans (hS.mono HB.out.size)) HSZ.out)) (fun v w' hr hb => ⟨hS.trans (hb.mono hS.size), Flz.of hb, (updF_self _ _ _).trans hr⟩)
        · intro f w1 hS hf
          generalize hA : putAll _ _ f = A
          have g13 : f 8 = .bool false := hf 8 (by decide)
          have t13 : A.tmps[13]? = some (.bool false) := by rw [← hA]; exact putAll_g f 13 8 slotsPz2 a0 sbPz2 (by kernel_rfl) zsz rfl g13
          have h15 : f 10 = .agg (encU c.2.2).toArray := hf 10 (by decide)
          have r15 : A.eval (.tmp 15) = .agg (encU c.2.2).toArray := by rw [← hA]; exact putAll_at f 15 10 slotsPz2 a0 sbPz2 (by kernel_rfl) zsz rfl h15
          have h18 : f 13 = .agg (encU (chkS c.2.1)).toArray := hf 13 (by decide)
          have r18 : A.eval (.tmp 18) = .agg (encU (chkS c.2.1)).toArray := by rw [← hA]; exact putAll_at f 18 13 slotsPz2 a0 sbPz2 (by kernel_rfl) zsz rfl h18
          exact flw_val rfl ((wanted_of rfl 13 rfl t13).trans rfl) (.bool true) (Eq.trans (neq_su 24 (.tmp 15) (.tmp 18) _ rfl c.2.2 (chkS c.2.1) r15 r18 (by kernel_rfl) (by kernel_rfl)) (by rw [e3])) hS (Flz.refl _) (updF_self _ _ _)
        · intro f w1 hS hf
          generalize hA : putAll _ _ f = A
          have h13 : f 8 = .bool false := hf 8 (by decide)
          have r13 : A.eval (.tmp 13) = .bool false := by rw [← hA]; exact putAll_at f 13 8 slotsPz2 a0 sbPz2 (by kernel_rfl) zsz rfl h13
          have h19 : f 14 = .bool true := hf 14 (by decide)
          have r19 : A.eval (.tmp 19) = .bool true := by rw [← hA]; exact putAll_at f 19 14 slotsPz2 a0 sbPz2 (by kernel_rfl) zsz rfl h19
          exact flw_val rfl rfl (.bool true) (ex_pick (.tmp 13) _ (.tmp 19) rfl false r13 ((if_neg (by decide)).trans r19)) hS (Flz.refl _) (updF_self _ _ _)
      intro f w3 hS hf hap
      have h0 : f 0 = .pointer (some ⟨g1, 0, none⟩) := hf 0 (by decide)
      have h1 : f 1 = .int .i64 (c.1) := hf 1 (by decide)
      have h2 : f 2 = .bool false := hf 2 (by decide)
      have h3 : f 3 = .bool false := hf 3 (by decide)
      have h4 : f 4 = undef := hf 4 (by decide)
      have h5 : f 5 = undef := hf 5 (by decide)
      have h6 : f 6 = undef := hf 6 (by decide)
      have h7 : f 7 = .bool false := hf 7 (by decide)
      have h8 : f 8 = .bool false := hf 8 (by decide)
      have h9 : f 9 = .pointer (some ⟨g1, 33, none⟩) := hf 9 (by decide)
      have h10 : f 10 = .agg (encU c.2.2).toArray := hf 10 (by decide)
      have h11 : f 11 = .pointer (some ⟨g1, 1, none⟩) := hf 11 (by decide)
      have h12 : f 12 = .agg (encU c.2.1).toArray := hf 12 (by decide)
      have h13 : f 13 = .agg (encU (chkS c.2.1)).toArray := hf 13 (by decide)
      have h14 : f 14 = .bool true := hf 14 (by decide)
      have h15 : f 15 = .bool true := hf 15 (by decide)
      clear hf hap
      clear zsz z1
      subst ha0
      simp only [slotsPz2, putAll, h0, h1, h2, h3, h4, h5, h6, h7, h8, h9, h10, h11, h12, h13, h14, h15, Act.put, List.setIfInBounds_toArray, List.set_cons_zero, List.set_cons_succ]
      clear h0 h1 h2 h3 h4 h5 h6 h7 h8 h9 h10 h11 h12 h13 h14 h15
      refine tl_nilN ?_
      replace HX1 := Lib.hid (HX1.out.keepB hS)
      replace HX2 := Lib.hid (HX2.out.keepB hS)
      replace HB := Lib.hid (HB.out.trans (hS.mono HB.out.size))
      clear hS
      go_upto_region 2 with fail
      refine wp_act (fun a0 ha0 => ?_)
      have zsz : a0.tmps.size = 27 := by rw [ha0]; rfl
      refine wp_region_flwo (E := Flz) [] slotsPn2 waitPn2 [Fct.val Flz 0 (.agg (encU zS).toArray)] (fun w' => Below w3.heap.size w3 w') _ 1 3 chkPn2 (by kernel_rfl) rfl (by kernel_rfl) (by decide) (Below.refl _ _) ?_ ?_
      · refine lt_s (lt_0) ?_
        · intro f w1 hS hf
          generalize hA : putAll _ _ f = A
          exact flw_val rfl rfl (.agg (encU zS).toArray) (ex_build 24 _ rfl (encU zS).toArray [] (by kernel_rfl) (by kernel_rfl)) hS (Flz.refl _) (updF_self _ _ _)
      intro f w4 hS hf hap
      have h0 : f 0 = .agg (encU zS).toArray := hf 0 (by decide)
      clear hf hap
      clear zsz
      subst ha0
      simp only [slotsPn2, putAll, h0, Act.put, List.setIfInBounds_toArray, List.set_cons_zero, List.set_cons_succ]
      clear h0
      refine tl_store rfl (by kernel_rfl) 24 (.tmp 2) (.tmp 21) rfl g2 (encU zS) _ rfl rfl _ (HX2.out.keepB hS) (by rw [encU_len]; kernel_rfl) (by simp only [encU_len]) (encU_all _) ?_
      intro w5 hp hbl hot
      have HP := Lib.hid hp
      have HF := Lib.hid ((HB.out.trans (hS.mono HB.out.size)).trans (hbl _ HGg2.out))
      clear hp hbl hot hS
      simp only [Act.put]
      refine tl_pure rfl (by kernel_rfl) (.bool false) (ex_assign _ rfl rfl) ?_
      try simp only [Act.put, List.setIfInBounds_toArray, List.set_cons_zero, List.set_cons_succ]
      refine tl_pure rfl (by kernel_rfl) (.bool false) (ex_assign _ rfl rfl) ?_
      try simp only [Act.put, List.setIfInBounds_toArray, List.set_cons_zero, List.set_cons_succ]
      refine tl_nil ?_
      go_wp2_with fail
      (try simp only [Exit.inBlock, Exit.then])
      refine bodyPost_ret (v := .tuple #[.agg (encU zS).toArray, .bool false, .bool false]) ?_ rfl ⟨⟨_, rfl, (pureV_off hp).symm⟩, HF.out⟩
      exact results_cell3A rfl _ _ g2 24 _ (0, 0) 32 5 rfl HP.out _ _ rfl rfl Tryd.underlying24 (by rw [List.size_toArray, encU_len]; kernel_rfl)
  · have e1 : (c.1 != (1 : Int)) = true := by simp [k1]
    by_cases k2 : c.1 = -1
    · have e2 : (c.1 != (-1 : Int)) = false := by simp [k2]
      by_cases k3 : c.2.2 = chkS c.2.1
      · have e3 : (!decide (c.2.2 = chkS c.2.1)) = false := by simp [k3]
        have hp : isPure c = true := by simp [isPure, k2, k3]
        refine wp_act (fun a0 ha0 => ?_)
        have zsz : a0.tmps.size = 27 := by rw [ha0]; rfl
        have z1 : a0.eval (.tmp 1) = .pointer (some ⟨g1, 0, none⟩) := by rw [ha0]; rfl
        refine wp_region_flw (E := Flz) [] slotsPz3 waitPz3 [Fct.val Flz 0 (.pointer (some ⟨g1, 0, none⟩)), Fct.val Flz 1 (.int .i64 (c.1)), Fct.val Flz 2 (.bool true), Fct.val Flz 3 (.bool true), Fct.val Flz 4 (.pointer (some ⟨g1, 0, none⟩)), Fct.val Flz 5 (.int .i64 (c.1)), Fct.val Flz 6 (.bool false), Fct.val Flz 7 (.bool false), Fct.val Flz 8 (.bool false), Fct.val Flz 9 (.pointer (some ⟨g1, 33, none⟩)), Fct.val Flz 10 (.agg (encU c.2.2).toArray), Fct.val Flz 11 (.pointer (some ⟨g1, 1, none⟩)), Fct.val Flz 12 (.agg (encU c.2.1).toArray), Fct.val Flz 13 (.agg (encU (chkS c.2.1)).toArray), Fct.val Flz 14 (.bool false), Fct.val Flz 15 (.bool false)] (fun w' => Below w2.drew.heap.size w2.drew w') _ 16 0 chkPz3 (by kernel_rfl) rfl (by kernel_rfl) (by kernel_rfl) (by decide) (Below.refl _ _) ?_ ?_
        · refine lt_s (lt_s (lt_s (lt_s (lt_s (lt_s (lt_s (lt_s (lt_s (lt_s (lt_s (lt_s (lt_s (lt_s (lt_s (lt_s (lt_0) ?_) ?_) ?_) ?_) ?_) ?_) ?_) ?_) ?_) ?_) ?_) ?_) ?_) ?_) ?_) ?_
          · intro f w1 hS hf
            generalize hA : putAll _ _ f = A
            have r1 : A.eval (.tmp 1) = .pointer (some ⟨g1, 0, none⟩) := by rw [← hA]; exact putAll_off f 1 slotsPz3 a0 (by kernel_rfl) z1
            exact flw_val rfl rfl (.pointer (some ⟨g1, 0, none⟩)) (fld0C (.tmp 1) rfl g1 r1) hS (Flz.refl _) (updF_self _ _ _)
          · intro f w1 hS hf
            generalize hA : putAll _ _ f = A
            have h5 : f 0 = .pointer (some ⟨g1, 0, none⟩) := hf 0 (by decide)
            have r5 : A.eval (.tmp 5) = .pointer (some ⟨g1, 0, none⟩) := by rw [← hA]; exact putAll_at f 5 0 slotsPz3 a0 sbPz3 (by kernel_rfl) zsz rfl h5
            exact flw_val rfl rfl (.int .i64 (c.1)) (ex_load1 2 (.tmp 5) rfl ⟨g1, 0, none⟩ r5 (fun _ => by kernel_rfl) ((HX1.out.keepB hS).cellv (encC_0 c))) hS (Flz.refl _) (updF_self _ _ _)
          · intro f w1 hS hf
            generalize hA : putAll _ _ f = A
            have h6 : f 1 = .int .i64 (c.1) := hf 1 (by decide)
            have r6 : A.eval (.tmp 6) = .int .i64 (c.1) := by rw [← hA]; exact putAll_at f 6 1 slotsPz3 a0 sbPz3 (by kernel_rfl) zsz rfl h6
            exact flw_val rfl rfl (.bool true) (Eq.trans (ex_int .neq _ _ (.tmp 6) _ rfl .i64 c.1 1 r6 rfl (.bool (c.1 != (1 : Int))) (fun _ => rfl)) (by rw [e1])) hS (Flz.refl _) (updF_self _ _ _)
          · intro f w1 hS hf
            generalize hA : putAll _ _ f = A
            have h7 : f 2 = .bool true := hf 2 (by decide)
            have r7 : A.eval (.tmp 7) = .bool true := by rw [← hA]; exact putAll_at f 7 2 slotsPz3 a0 sbPz3 (by kernel_rfl) zsz rfl h7
            exact flw_val rfl rfl (.bool true) (ex_move (.tmp 7) rfl r7) hS (Flz.refl _) (updF_self _ _ _)
          · intro f w1 hS hf
            generalize hA : putAll _ _ f = A
            have g8 : f 3 = .bool true := hf 3 (by decide)
            have t8 : A.tmps[8]? = some (.bool true) := by rw [← hA]; exact putAll_g f 8 3 slotsPz3 a0 sbPz3 (by kernel_rfl) zsz rfl g8
            have r1 : A.eval (.tmp 1) = .pointer (some ⟨g1, 0, none⟩) := by rw [← hA]; exact putAll_off f 1 slotsPz3 a0 (by kernel_rfl) z1
            exact flw_val rfl ((wanted_of rfl 8 rfl t8).trans rfl) (.pointer (some ⟨g1, 0, none⟩)) (fld0C (.tmp 1) rfl g1 r1) hS (Flz.refl _) (updF_self _ _ _)
          · intro f w1 hS hf
            generalize hA : putAll _ _ f = A
            have g8 : f 3 = .bool true := hf 3 (by decide)
            have t8 : A.tmps[8]? = some (.bool true) := by rw [← hA]; exact putAll_g f 8 3 slotsPz3 a0 sbPz3 (by kernel_rfl) zsz rfl g8
            have h9 : f 4 = .pointer (some ⟨g1, 0, none⟩) := hf 4 (by decide)
            have r9 : A.eval (.tmp 9) = .pointer (some ⟨g1, 0, none⟩) := by rw [← hA]; exact putAll_at f 9 4 slotsPz3 a0 sbPz3 (by kernel_rfl) zsz rfl h9
            exact flw_val rfl ((wanted_of rfl 8 rfl t8).trans rfl) (.int .i64 (c.1)) (ex_load1 2 (.tmp 9) rfl ⟨g1, 0, none⟩ r9 (fun _ => by kernel_rfl) ((HX1.out.keepB hS).cellv (encC_0 c))) hS (Flz.refl _) (updF_self _ _ _)
          · intro f w1 hS hf
            generalize hA : putAll _ _ f = A
            have g8 : f 3 = .bool true := hf 3 (by decide)
            have t8 : A.tmps[8]? = some (.bool true) := by rw [← hA]; exact putAll_g f 8 3 slotsPz3 a0 sbPz3 (by kernel_rfl) zsz rfl g8
            have h10 : f 5 = .int .i64 (c.1) := hf 5 (by decide)
            have r10 : A.eval (.tmp 10) = .int .i64 (c.1) := by rw [← hA]; exact putAll_at f 10 5 slotsPz3 a0 sbPz3 (by kernel_rfl) zsz rfl h10
            exact flw_val rfl ((wanted_of rfl 8 rfl t8).trans rfl) (.bool false) (Eq.trans (ex_int .neq _ _ (.tmp 10) _ rfl .i64 c.1 ((-1)) r10 rfl (.bool (c.1 != ((-1) : Int))) (fun _ => rfl)) (by rw [e2])) hS (Flz.refl _) (updF_self _ _ _)
          · intro f w1 hS hf
            generalize hA : putAll _ _ f = A
            have h8 : f 3 = .bool true := hf 3 (by decide)
            have r8 : A.eval (.tmp 8) = .bool true := by rw [← hA]; exact putAll_at f 8 3 slotsPz3 a0 sbPz3 (by kernel_rfl) zsz rfl h8
            have h11 : f 6 = .bool false := hf 6 (by decide)
            have r11 : A.eval (.tmp 11) = .bool false := by rw [← hA]; exact putAll_at f 11 6 slotsPz3 a0 sbPz3 (by kernel_rfl) zsz rfl h11
            exact flw_val rfl rfl (.bool false) (ex_pick (.tmp 8) (.tmp 11) _ rfl true r8 ((if_pos rfl).trans r11)) hS (Flz.refl _) (updF_self _ _ _)
          · intro f w1 hS hf
            generalize hA : putAll _ _ f = A
            have h12 : f 7 = .bool false := hf 7 (by decide)
            have r12 : A.eval (.tmp 12) = .bool false := by rw [← hA]; exact putAll_at f 12 7 slotsPz3 a0 sbPz3 (by kernel_rfl) zsz rfl h12
            exact flw_val rfl rfl (.bool false) (ex_move (.tmp 12) rfl r12) hS (Flz.refl _) (updF_self _ _ _)
          · intro f w1 hS hf
            generalize hA : putAll _ _ f = A
            have g13 : f 8 = .bool false := hf 8 (by decide)
            have t13 : A.tmps[13]? = some (.bool false) := by rw [← hA]; exact putAll_g f 13 8 slotsPz3 a0 sbPz3 (by kernel_rfl) zsz rfl g13
            have r1 : A.eval (.tmp 1) = .pointer (some ⟨g1, 0, none⟩) := by rw [← hA]; exact putAll_off f 1 slotsPz3 a0 (by kernel_rfl) z1
            exact flw_val rfl ((wanted_of rfl 13 rfl t13).trans rfl) (.pointer (some ⟨g1, 33, none⟩)) (fld2C (.tmp 1) rfl g1 r1) hS (Flz.refl _) (updF_self _ _ _)
          · intro f w1 hS hf
            generalize hA : putAll _ _ f = A
            have g13 : f 8 = .bool false := hf 8 (by decide)
            have t13 : A.tmps[13]? = some (.bool false) := by rw [← hA]; exact putAll_g f 13 8 slotsPz3 a0 sbPz3 (by kernel_rfl) zsz rfl g13
            have h14 : f 9 = .pointer (some ⟨g1, 33, none⟩) := hf 9 (by decide)
            have r14 : A.eval (.tmp 14) = .pointer (some ⟨g1, 33, none⟩) := by rw [← hA]; exact putAll_at f 14 9 slotsPz3 a0 sbPz3 (by kernel_rfl) zsz rfl h14
            exact flw_val rfl ((wanted_of rfl 13 rfl t13).trans rfl) (.agg (encU c.2.2).toArray) (ex_loadR 24 (.tmp 14) rfl ⟨g1, 33, none⟩ r14 (fun _ => by kernel_rfl) (encU c.2.2) (by rw [encU_len]; kernel_rfl) ((HX1.out.keepB hS).part (encU c.2.2) 33 (encC_chk c))) hS (Flz.refl _) (updF_self _ _ _)
          · intro f w1 hS hf
            generalize hA : putAll _ _ f = A
            have g13 : f 8 = .bool false := hf 8 (by decide)
            have t13 : A.tmps[13]? = some (.bool false) := by rw [← hA]; exact putAll_g f 13 8 slotsPz3 a0 sbPz3 (by kernel_rfl) zsz rfl g13
            have r1 : A.eval (.tmp 1) = .pointer (some ⟨g1, 0, none⟩) := by rw [← hA]; exact putAll_off f 1 slotsPz3 a0 (by kernel_rfl) z1
            exact flw_val rfl ((wanted_of rfl 13 rfl t13).trans rfl) (.pointer (some ⟨g1, 1, none⟩)) (fld1C (.tmp 1) rfl g1 r1) hS (Flz.refl _) (updF_self _ _ _)
          · intro f w1 hS hf
            generalize hA : putAll _ _ f = A
            have g13 : f 8 = .bool false := hf 8 (by decide)
            have t13 : A.tmps[13]? = some (.bool false) := by rw [← hA]; exact putAll_g f 13 8 slotsPz3 a0 sbPz3 (by kernel_rfl) zsz rfl g13
            have h16 : f 11 = .pointer (some ⟨g1, 1, none⟩) := hf 11 (by decide)
            have r16 : A.eval (.tmp 16) = .pointer (some ⟨g1, 1, none⟩) := by rw [← hA]; exact putAll_at f 16 11 slotsPz3 a0 sbPz3 (by kernel_rfl) zsz rfl h16
            exact flw_val rfl ((wanted_of rfl 13 rfl t13).trans rfl) (.agg (encU c.2.1).toArray) (ex_loadR 24 (.tmp 16) rfl ⟨g1, 1, none⟩ r16 (fun _ => by kernel_rfl) (encU c.2.1) (by rw [encU_len]; kernel_rfl) ((HX1.out.keepB hS).part (encU c.2.1) 1 (encC_key c))) hS (Flz.refl _) (updF_self _ _ _)
          · intro f w1 hS hf
            generalize hA : putAll _ _ f = A
            have g13 : f 8 = .bool false := hf 8 (by decide)
            have t13 : A.tmps[13]? = some (.bool false) := by rw [← hA]; exact putAll_g f 13 8 slotsPz3 a0 sbPz3 (by kernel_rfl) zsz rfl g13
            have h17 : f 12 = .agg (encU c.2.1).toArray := hf 12 (by decide)
            have r17 : A.eval (.tmp 17) = .agg (encU c.2.1).toArray := by rw [← hA]; exact putAll_at f 17 12 slotsPz3 a0 sbPz3 (by kernel_rfl) zsz rfl h17
            exact flw_call rfl ((wanted_of rfl 13 rfl t13).trans rfl) 15 #[(.tmp 17)] _ rfl #[.agg (encU c.2.1).toArray] (by simp only [List.map_toArray, List.map_cons, List.map_nil, r17]) (fun w => by kernel_rfl) (fun v _ => v = .agg (encU (chkS c.2.1)).toArray) (chk_any c.2.1 w1 (HL.out.keep (HB.out.trans (hS.mono HB.out.size)) HSZ.out)) (fun v w' hr hb => ⟨hS.trans (hb.mono hS.size), Flz.of hb, (updF_self _ _ _).trans hr⟩)
          · intro f w1 hS hf
            generalize hA : putAll _ _ f = A
            have g13 : f 8 = .bool false := hf 8 (by decide)
            have t13 : A.tmps[13]? = some (.bool false) := by rw [← hA]; exact putAll_g f 13 8 slotsPz3 a0 sbPz3 (by kernel_rfl) zsz rfl g13
            have h15 : f 10 = .agg (encU c.2.2).toArray := hf 10 (by decide)
            have r15 : A.eval (.tmp 15) = .agg (encU c.2.2).toArray := by rw [← hA]; exact putAll_at f 15 10 slotsPz3 a0 sbPz3 (by kernel_rfl) zsz rfl h15
            have h18 : f 13 = .agg (encU (chkS c.2.1)).toArray := hf 13 (by decide)
            have r18 : A.eval (.tmp 18) = .agg (encU (chkS c.2.1)).toArray := by rw [← hA]; exact putAll_at f 18 13 slotsPz3 a0 sbPz3 (by kernel_rfl) zsz rfl h18
            exact flw_val rfl ((wanted_of rfl 13 rfl t13).trans rfl) (.bool false) (Eq.trans (neq_su 24 (.tmp 15) (.tmp 18) _ rfl c.2.2 (chkS c.2.1) r15 r18 (by kernel_rfl) (by kernel_rfl)) (by rw [e3])) hS (Flz.refl _) (updF_self _ _ _)
          · intro f w1 hS hf
            generalize hA : putAll _ _ f = A
            have h13 : f 8 = .bool false := hf 8 (by decide)
            have r13 : A.eval (.tmp 13) = .bool false := by rw [← hA]; exact putAll_at f 13 8 slotsPz3 a0 sbPz3 (by kernel_rfl) zsz rfl h13
            have h19 : f 14 = .bool false := hf 14 (by decide)
            have r19 : A.eval (.tmp 19) = .bool false := by rw [← hA]; exact putAll_at f 19 14 slotsPz3 a0 sbPz3 (by kernel_rfl) zsz rfl h19
            exact flw_val rfl rfl (.bool false) (ex_pick (.tmp 13) _ (.tmp 19) rfl false r13 ((if_neg (by decide)).trans r19)) hS (Flz.refl _) (updF_self _ _ _)
        intro f w3 hS hf hap
        have h0 : f 0 = .pointer (some ⟨g1, 0, none⟩) := hf 0 (by decide)
        have h1 : f 1 = .int .i64 (c.1) := hf 1 (by decide)
        have h2 : f 2 = .bool true := hf 2 (by decide)
        have h3 : f 3 = .bool true := hf 3 (by decide)
        have h4 : f 4 = .pointer (some ⟨g1, 0, none⟩) := hf 4 (by decide)
        have h5 : f 5 = .int .i64 (c.1) := hf 5 (by decide)
        have h6 : f 6 = .bool false := hf 6 (by decide)
        have h7 : f 7 = .bool false := hf 7 (by decide)
        have h8 : f 8 = .bool false := hf 8 (by decide)
        have h9 : f 9 = .pointer (some ⟨g1, 33, none⟩) := hf 9 (by decide)
        have h10 : f 10 = .agg (encU c.2.2).toArray := hf 10 (by decide)
        have h11 : f 11 = .pointer (some ⟨g1, 1, none⟩) := hf 11 (by decide)
        have h12 : f 12 = .agg (encU c.2.1).toArray := hf 12 (by decide)
        have h13 : f 13 = .agg (encU (chkS c.2.1)).toArray := hf 13 (by decide)
        have h14 : f 14 = .bool false := hf 14 (by decide)
        have h15 : f 15 = .bool false := hf 15 (by decide)
        clear hf hap
        clear zsz z1
        subst ha0
        simp only [slotsPz3, putAll, h0, h1, h2, h3, h4, h5, h6, h7, h8, h9, h10, h11, h12, h13, h14, h15, Act.put, List.setIfInBounds_toArray, List.set_cons_zero, List.set_cons_succ]
        clear h0 h1 h2 h3 h4 h5 h6 h7 h8 h9 h10 h11 h12 h13 h14 h15
        refine tl_nilN ?_
        replace HX1 := Lib.hid (HX1.out.keepB hS)
        replace HX2 := Lib.hid (HX2.out.keepB hS)
        replace HB := Lib.hid (HB.out.trans (hS.mono HB.out.size))
        clear hS
        go_upto_region 3 with fail
        refine wp_region_ors (fun w' => Has w' g1 28 (encC c) ∧ Below w.heap.size w w') [(0, true), (1, true), (2, true), (3, true), (4, true), (5, false), (6, true), (7, true)] (by kernel_rfl) (by kernel_rfl) (by kernel_rfl) ⟨HX1.out, HB.out.drew⟩ ?_
        have HX2D : Hid (Has w3.drew g2 24 (encU zS)) := Lib.hid HX2.out
        have HBD := Lib.hid HB.out.drew
        have HNE : Hid (g1 ≠ g2) := Lib.hid (HX1.out.apartT HX2.out (by decide))
        refine ors_pure (by kernel_rfl) (fun w' hw' => fld1C (.tmp 1) rfl g1 rfl) ?_
        try simp only [Act.put, List.setIfInBounds_toArray, List.set_cons_zero, List.set_cons_succ]
        refine ors_pure (by kernel_rfl) (fun w' hw' => ex_loadR 24 (.tmp 22) rfl ⟨g1, 1, none⟩ rfl (fun _ => by kernel_rfl) (encU c.2.1) (by rw [encU_len]; kernel_rfl) (hw'.1.part (encU c.2.1) 1 (encC_key c))) ?_
        try simp only [Act.put, List.setIfInBounds_toArray, List.set_cons_zero, List.set_cons_succ]
        refine ors_pure (by kernel_rfl) (fun w' hw' => fld0C (.tmp 1) rfl g1 rfl) ?_
        try simp only [Act.put, List.setIfInBounds_toArray, List.set_cons_zero, List.set_cons_succ]
        refine ors_pure (by kernel_rfl) (fun w' hw' => ex_load1 2 (.tmp 24) rfl ⟨g1, 0, none⟩ rfl (fun _ => by kernel_rfl) (hw'.1.cellv (encC_0 c))) ?_
        try simp only [Act.put, List.setIfInBounds_toArray, List.set_cons_zero, List.set_cons_succ]
        refine ors_pure (by kernel_rfl) (fun w' hw' => ex_int .eql _ _ (.tmp 25) _ rfl .i64 c.1 1 rfl rfl (.bool (c.1 == 1)) (fun _ => rfl)) ?_
        try simp only [Act.put, List.setIfInBounds_toArray, List.set_cons_zero, List.set_cons_succ]
        refine ors_step (by kernel_rfl) (fun K hK => wp_store_row 24 (.tmp 2) (.tmp 23) rfl g2 (encU c.2.1).toArray rfl rfl 24 (encU zS).toArray HX2D.out (by rw [List.size_toArray, encU_len]; kernel_rfl) (by rw [List.size_toArray, List.size_toArray, encU_len, encU_len]) (encU_all _) (hK _ _ ⟨⟨?_, ?_⟩, ?_⟩))
        · exact (setRow_other _ g2 g1 _ HNE.out).trans HX1.out
        · exact below_row HBD.out HGg2.out _
        have HP : Hid (Has (w3.drew.setRow g2 (encU c.2.1).toArray) g2 24 (encU c.2.1)) := Lib.hid (HX2D.out.rowl _)
        have HF := Lib.hid (below_row HBD.out HGg2.out (encU c.2.1).toArray)
        simp only [Act.put]
        refine ors_pure (by kernel_rfl) (fun w' hw' => ex_assign (.tmp 26) rfl rfl) ?_
        try simp only [Act.put, List.setIfInBounds_toArray, List.set_cons_zero, List.set_cons_succ]
        refine ors_pure (by kernel_rfl) (fun w' hw' => ex_assign _ rfl rfl) ?_
        try simp only [Act.put, List.setIfInBounds_toArray, List.set_cons_zero, List.set_cons_succ]
        refine ors_nil ?_
        go_wp2_with fail
        (try simp only [Exit.inBlock, Exit.then])
        refine bodyPost_ret (v := .tuple #[.agg (encU c.2.1).toArray, .bool (c.1 == 1), .bool true]) ?_ rfl ⟨⟨_, rfl, (pureV_on hp).symm⟩, HF.out⟩
        exact results_cell3A rfl _ _ g2 24 _ (0, 0) 32 5 rfl HP.out _ _ rfl rfl Tryd.underlying24 (by rw [List.size_toArray, encU_len]; kernel_rfl)
      · have e3 : (!decide (c.2.2 = chkS c.2.1)) = true := by simp [k3]
        have hp : isPure c = false := by simp [isPure, k3]
        refine wp_act (fun a0 ha0 => ?_)
        have zsz : a0.tmps.size = 27 := by rw [ha0]; rfl
        have z1 : a0.eval (.tmp 1) = .pointer (some ⟨g1, 0, none⟩) := by rw [ha0]; rfl
        refine wp_region_flw (E := Flz) [] slotsPz4 waitPz4 [Fct.val Flz 0 (.pointer (some ⟨g1, 0, none⟩)), Fct.val Flz 1 (.int .i64 (c.1)), Fct.val Flz 2 (.bool true), Fct.val Flz 3 (.bool true), Fct.val Flz 4 (.pointer (some ⟨g1, 0, none⟩)), Fct.val Flz 5 (.int .i64 (c.1)), Fct.val Flz 6 (.bool false), Fct.val Flz 7 (.bool false), Fct.val Flz 8 (.bool false), Fct.val Flz 9 (.pointer (some ⟨g1, 33, none⟩)), Fct.val Flz 10 (.agg (encU c.2.2).toArray), Fct.val Flz 11 (.pointer (some ⟨g1, 1, none⟩)), Fct.val Flz 12 (.agg (encU c.2.1).toArray), Fct.val Flz 13 (.agg (encU (chkS c.2.1)).toArray), Fct.val Flz 14 (.bool true), Fct.val Flz 15 (.bool true)] (fun w' => Below w2.drew.heap.size w2.drew w') _ 16 0 chkPz4 (by kernel_rfl) rfl (by kernel_rfl) (by kernel_rfl) (by decide) (Below.refl _ _) ?_ ?_
        · refine lt_s (lt_s (lt_s (lt_s (lt_s (lt_s (lt_s (lt_s (lt_s (lt_s (lt_s (lt_s (lt_s (lt_s (lt_s (lt_s (lt_0) ?_) ?_) ?_) ?_) ?_) ?_) ?_) ?_) ?_) ?_) ?_) ?_) ?_) ?_) ?_) ?_
          · intro f w1 hS hf
            generalize hA : putAll _ _ f = A
            have r1 : A.eval (.tmp 1) = .pointer (some ⟨g1, 0, none⟩) := by rw [← hA]; exact putAll_off f 1 slotsPz4 a0 (by kernel_rfl) z1
            exact flw_val rfl rfl (.pointer (some ⟨g1, 0, none⟩)) (fld0C (.tmp 1) rfl g1 r1) hS (Flz.refl _) (updF_self _ _ _)
          · intro f w1 hS hf
            generalize hA : putAll _ _ f = A
            have h5 : f 0 = .pointer (some ⟨g1, 0, none⟩) := hf 0 (by decide)
            have r5 : A.eval (.tmp 5) = .pointer (some ⟨g1, 0, none⟩) := by rw [← hA]; exact putAll_at f 5 0 slotsPz4 a0 sbPz4 (by kernel_rfl) zsz rfl h5
            exact flw_val rfl rfl (.int .i64 (c.1)) (ex_load1 2 (.tmp 5) rfl ⟨g1, 0, none⟩ r5 (fun _ => by kernel_rfl) ((HX1.out.keepB hS).cellv (encC_0 c))) hS (Flz.refl _) (updF_self _ _ _)
          · intro f w1 hS hf
            generalize hA : putAll _ _ f = A
            have h6 : f 1 = .int .i64 (c.1) := hf 1 (by decide)
            have r6 : A.eval (.tmp 6) = .int .i64 (c.1) := by rw [← hA]; exact putAll_at f 6 1 slotsPz4 a0 sbPz4 (by kernel_rfl) zsz rfl h6
            exact flw_val rfl rfl (.bool true) (Eq.trans (ex_int .neq _ _ (.tmp 6) _ rfl .i64 c.1 1 r6 rfl (.bool (c.1 != (1 : Int))) (fun _ => rfl)) (by rw [e1])) hS (Flz.refl _) (updF_self _ _ _)
          · intro f w1 hS hf
            generalize hA : putAll _ _ f = A
            have h7 : f 2 = .bool true := hf 2 (by decide)
            have r7 : A.eval (.tmp 7) = .bool true := by rw [← hA]; exact putAll_at f 7 2 slotsPz4 a0 sbPz4 (by kernel_rfl) zsz rfl h7
            exact flw_val rfl rfl (.bool true) (ex_move (.tmp 7) rfl r7) hS (Flz.refl _) (updF_self _ _ _)
          · intro f w1 hS hf
            generalize hA : putAll _ _ f = A
            have g8 : f 3 = .bool true := hf 3 (by decide)
            have t8 : A.tmps[8]? = some (.bool true) := by rw [← hA]; exact putAll_g f 8 3 slotsPz4 a0 sbPz4 (by kernel_rfl) zsz rfl g8
            have r1 : A.eval (.tmp 1) = .pointer (some ⟨g1, 0, none⟩) := by rw [← hA]; exact putAll_off f 1 slotsPz4 a0 (by kernel_rfl) z1
            exact flw_val rfl ((wanted_of rfl 8 rfl t8).trans rfl) (.pointer (some ⟨g1, 0, none⟩)) (fld0C (.tmp 1) rfl g1 r1) hS (Flz.refl _) (updF_self _ _ _)
          · intro f w1 hS hf
            generalize hA : putAll _ _ f = A
            have g8 : f 3 = .bool true := hf 3 (by decide)
            have t8 : A.tmps[8]? = some (.bool true) := by rw [← hA]; exact putAll_g f 8 3 slotsPz4 a0 sbPz4 (by kernel_rfl) zsz rfl g8
            have h9 : f 4 = .pointer (some ⟨g1, 0, none⟩) := hf 4 (by decide)
            have r9 : A.eval (.tmp 9) = .pointer (some ⟨g1, 0, none⟩) := by rw [← hA]; exact putAll_at f 9 4 slotsPz4 a0 sbPz4 (by kernel_rfl) zsz rfl h9
            exact flw_val rfl ((wanted_of rfl 8 rfl t8).trans rfl) (.int .i64 (c.1)) (ex_load1 2 (.tmp 9) rfl ⟨g1, 0, none⟩ r9 (fun _ => by kernel_rfl) ((HX1.out.keepB hS).cellv (encC_0 c))) hS (Flz.refl _) (updF_self _ _ _)
          · intro f w1 hS hf
            generalize hA : putAll _ _ f = A
            have g8 : f 3 = .bool true := hf 3 (by decide)
            have t8 : A.tmps[8]? = some (.bool true) := by rw [← hA]; exact putAll_g f 8 3 slotsPz4 a0 sbPz4 (by kernel_rfl) zsz rfl g8
            have h10 : f 5 = .int .i64 (c.1) := hf 5 (by decide)
            have r10 : A.eval (.tmp 10) = .int .i64 (c.1) := by rw [← hA]; exact putAll_at f 10 5 slotsPz4 a0 sbPz4 (by kernel_rfl) zsz rfl h10
            exact flw_val rfl ((wanted_of rfl 8 rfl t8).trans rfl) (.bool false) (Eq.trans (ex_int .neq _ _ (.tmp 10) _ rfl .i64 c.1 ((-1)) r10 rfl (.bool (c.1 != ((-1) : Int))) (fun _ => rfl)) (by rw [e2])) hS (Flz.refl _) (updF_self _ _ _)
          · intro f w1 hS hf
            generalize hA : putAll _ _ f = A
            have h8 : f 3 = .bool true := hf 3 (by decide)
            have r8 : A.eval (.tmp 8) = .bool true := by rw [← hA]; exact putAll_at f 8 3 slotsPz4 a0 sbPz4 (by kernel_rfl) zsz rfl h8
            have h11 : f 6 = .bool false := hf 6 (by decide)
            have r11 : A.eval (.tmp 11) = .bool false := by rw [← hA]; exact putAll_at f 11 6 slotsPz4 a0 sbPz4 (by kernel_rfl) zsz rfl h11
            exact flw_val rfl rfl (.bool false) (ex_pick (.tmp 8) (.tmp 11) _ rfl true r8 ((if_pos rfl).trans r11)) hS (Flz.refl _) (updF_self _ _ _)
          · intro f w1 hS hf
            generalize hA : putAll _ _ f = A
            have h12 : f 7 = .bool false := hf 7 (by decide)
            have r12 : A.eval (.tmp 12) = .bool false := by rw [← hA]; exact putAll_at f 12 7 slotsPz4 a0 sbPz4 (by kernel_rfl) zsz rfl h12
            exact flw_val rfl rfl (.bool false) (ex_move (.tmp 12) rfl r12) hS (Flz.refl _) (updF_self _ _ _)
          · intro f w1 hS hf
            generalize hA : putAll _ _ f = A
            have g13 : f 8 = .bool false := hf 8 (by decide)
            have t13 : A.tmps[13]? = some (.bool false) := by rw [← hA]; exact putAll_g f 13 8 slotsPz4 a0 sbPz4 (by kernel_rfl) zsz rfl g13
            have r1 : A.eval (.tmp 1) = .pointer (some ⟨g1, 0, none⟩) := by rw [← hA]; exact putAll_off f 1 slotsPz4 a0 (by kernel_rfl) z1
            exact flw_val rfl ((wanted_of rfl 13 rfl t13).trans rfl) (.pointer (some ⟨g1, 33, none⟩)) (fld2C (.tmp 1) rfl g1 r1) hS (Flz.refl _) (updF_self _ _ _)
          · intro f w1 hS hf
            generalize hA : putAll _ _ f = A
            have g13 : f 8 = .bool false := hf 8 (by decide)
            have t13 : A.tmps[13]? = some (.bool false) := by rw [← hA]; exact putAll_g f 13 8 slotsPz4 a0 sbPz4 (by kernel_rfl) zsz rfl g13
            have h14 : f 9 = .pointer (some ⟨g1, 33, none⟩) := hf 9 (by decide)
            have r14 : A.eval (.tmp 14) = .pointer (some ⟨g1, 33, none⟩) := by rw [← hA]; exact putAll_at f 14 9 slotsPz4 a0 sbPz4 (by kernel_rfl) zsz rfl h14
            exact flw_val rfl ((wanted_of rfl 13 rfl t13).trans rfl) (.agg (encU c.2.2).toArray) (ex_loadR 24 (.tmp 14) rfl ⟨g1, 33, none⟩ r14 (fun _ => by kernel_rfl) (encU c.2.2) (by rw [encU_len]; kernel_rfl) ((HX1.out.keepB hS).part (encU c.2.2) 33 (encC_chk c))) hS (Flz.refl _) (updF_self _ _ _)
          · intro f w1 hS hf
            generalize hA : putAll _ _ f = A
            have g13 : f 8 = .bool false := hf 8 (by decide)
            have t13 : A.tmps[13]? = some (.bool false) := by rw [← hA]; exact putAll_g f 13 8 slotsPz4 a0 sbPz4 (by kernel_rfl) zsz rfl g13
            have r1 : A.eval (.tmp 1) = .pointer (some ⟨g1, 0, none⟩) := by rw [← hA]; exact putAll_off f 1 slotsPz4 a0 (by kernel_rfl) z1
            exact flw_val rfl ((wanted_of rfl 13 rfl t13).trans rfl) (.pointer (some ⟨g1, 1, none⟩)) (fld1C (.tmp 1) rfl g1 r1) hS (Flz.refl _) (updF_self _ _ _)
          · intro f w1 hS hf
            generalize hA : putAll _ _ f = A
            have g13 : f 8 = .bool false := hf 8 (by decide)
            have t13 : A.tmps[13]? = some (.bool false) := by rw [← hA]; exact putAll_g f 13 8 slotsPz4 a0 sbPz4 (by kernel_rfl) zsz rfl g13
            have h16 : f 11 = .pointer (some ⟨g1, 1, none⟩) := hf 11 (by decide)
            have r16 : A.eval (.tmp 16) = .pointer (some ⟨g1, 1, none⟩) := by rw [← hA]; exact putAll_at f 16 11 slotsPz4 a0 sbPz4 (by kernel_rfl) zsz rfl h16
            exact flw_val rfl ((wanted_of rfl 13 rfl t13).trans rfl) (.agg (encU c.2.1).toArray) (ex_loadR 24 (.tmp 16) rfl ⟨g1, 1, none⟩ r16 (fun _ => by kernel_rfl) (encU c.2.1) (by rw [encU_len]; kernel_rfl) ((HX1.out.keepB hS).part (encU c.2.1) 1 (encC_key c))) hS (Flz.refl _) (updF_self _ _ _)
          · intro f w1 hS hf
            generalize hA : putAll _ _ f = A
            have g13 : f 8 = .bool false := hf 8 (by decide)
            have t13 : A.tmps[13]? = some (.bool false) := by rw [← hA]; exact putAll_g f 13 8 slotsPz4 a0 sbPz4 (by kernel_rfl) zsz rfl g13
            have h17 : f 12 = .agg (encU c.2.1).toArray := hf 12 (by decide)
            have r17 : A.eval (.tmp 17) = .agg (encU c.2.1).toArray := by rw [← hA]; exact putAll_at f 17 12 slotsPz4 a0 sbPz4 (by kernel_rfl) zsz rfl h17
            exact flw_call rfl ((wanted_of rfl 13 rfl t13).trans rfl) 15 #[(.tmp 17)] _ rfl #[.agg (encU c.2.1).toArray] (by simp only [List.map_toArray, List.map_cons, List.map_nil, r17]) (fun w => by kernel_rfl) (fun v _ => v = .agg (encU (chkS c.2.1)).toArray) (chk_any c.2.1 w1 (HL.out.keep (HB.out.trans (hS.mono HB.out.size)) HSZ.out)) (fun v w' hr hb => ⟨hS.trans (hb.mono hS.size), Flz.of hb, (updF_self _ _ _).trans hr⟩)
          · intro f w1 hS hf
            generalize hA : putAll _ _ f = A
            have g13 : f 8 = .bool false := hf 8 (by decide)
            have t13 : A.tmps[13]? = some (.bool false) := by rw [← hA]; exact putAll_g f 13 8 slotsPz4 a0 sbPz4 (by kernel_rfl) zsz rfl g13
            have h15 : f 10 = .agg (encU c.2.2).toArray := hf 10 (by decide)
            have r15 : A.eval (.tmp 15) = .agg (encU c.2.2).toArray := by rw [← hA]; exact putAll_at f 15 10 slotsPz4 a0 sbPz4 (by kernel_rfl) zsz rfl h15
            have h18 : f 13 = .agg (encU (chkS c.2.1)).toArray := hf 13 (by decide)
            have r18 : A.eval (.tmp 18) = .agg (encU (chkS c.2.1)).toArray := by rw [← hA]; exact putAll_at f 18 13 slotsPz4 a0 sbPz4 (by kernel_rfl) zsz rfl h18
            exact flw_val rfl ((wanted_of rfl 13 rfl t13).trans rfl) (.bool true) (Eq.trans (neq_su 24 (.tmp 15) (.tmp 18) _ rfl c.2.2 (chkS c.2.1) r15 r18 (by kernel_rfl) (by kernel_rfl)) (by rw [e3])) hS (Flz.refl _) (updF_self _ _ _)
          · intro f w1 hS hf
            generalize hA : putAll _ _ f = A
            have h13 : f 8 = .bool false := hf 8 (by decide)
            have r13 : A.eval (.tmp 13) = .bool false := by rw [← hA]; exact putAll_at f 13 8 slotsPz4 a0 sbPz4 (by kernel_rfl) zsz rfl h13
            have h19 : f 14 = .bool true := hf 14 (by decide)
            have r19 : A.eval (.tmp 19) = .bool true := by rw [← hA]; exact putAll_at f 19 14 slotsPz4 a0 sbPz4 (by kernel_rfl) zsz rfl h19
            exact flw_val rfl rfl (.bool true) (ex_pick (.tmp 13) _ (.tmp 19) rfl false r13 ((if_neg (by decide)).trans r19)) hS (Flz.refl _) (updF_self _ _ _)
        intro f w3 hS hf hap
        have h0 : f 0 = .pointer (some ⟨g1, 0, none⟩) := hf 0 (by decide)
        have h1 : f 1 = .int .i64 (c.1) := hf 1 (by decide)
        have h2 : f 2 = .bool true := hf 2 (by decide)
        have h3 : f 3 = .bool true := hf 3 (by decide)
        have h4 : f 4 = .pointer (some ⟨g1, 0, none⟩) := hf 4 (by decide)
        have h5 : f 5 = .int .i64 (c.1) := hf 5 (by decide)
        have h6 : f 6 = .bool false := hf 6 (by decide)
        have h7 : f 7 = .bool false := hf 7 (by decide)
        have h8 : f 8 = .bool false := hf 8 (by decide)
        have h9 : f 9 = .pointer (some ⟨g1, 33, none⟩) := hf 9 (by decide)
        have h10 : f 10 = .agg (encU c.2.2).toArray := hf 10 (by decide)
        have h11 : f 11 = .pointer (some ⟨g1, 1, none⟩) := hf 11 (by decide)
        have h12 : f 12 = .agg (encU c.2.1).toArray := hf 12 (by decide)
        have h13 : f 13 = .agg (encU (chkS c.2.1)).toArray := hf 13 (by decide)
        have h14 : f 14 = .bool true := hf 14 (by decide)
        have h15 : f 15 = .bool true := hf 15 (by decide)
        clear hf hap
        clear zsz z1
        subst ha0
        simp only [slotsPz4, putAll, h0, h1, h2, h3, h4, h5, h6, h7, h8, h9, h10, h11, h12, h13, h14, h15, Act.put, List.setIfInBounds_toArray, List.set_cons_zero, List.set_cons_succ]
        clear h0 h1 h2 h3 h4 h5 h6 h7 h8 h9 h10 h11 h12 h13 h14 h15
        refine tl_nilN ?_
        replace HX1 := Lib.hid (HX1.out.keepB hS)
        replace HX2 := Lib.hid (HX2.out.keepB hS)
        replace HB := Lib.hid (HB.out.trans (hS.mono HB.out.size))
        clear hS
        go_upto_region 2 with fail
        refine wp_act (fun a0 ha0 => ?_)
        have zsz : a0.tmps.size = 27 := by rw [ha0]; rfl
        refine wp_region_flwo (E := Flz) [] slotsPn2 waitPn2 [Fct.val Flz 0 (.agg (encU zS).toArray)] (fun w' => Below w3.heap.size w3 w') _ 1 3 chkPn2 (by kernel_rfl) rfl (by kernel_rfl) (by decide) (Below.refl _ _) ?_ ?_
        · refine lt_s (lt_0) ?_
          · intro f w1 hS hf
            generalize hA : putAll _ _ f = A
            exact flw_val rfl rfl (.agg (encU zS).toArray) (ex_build 24 _ rfl (encU zS).toArray [] (by kernel_rfl) (by kernel_rfl)) hS (Flz.refl _) (updF_self _ _ _)
        intro f w4 hS hf hap
        have h0 : f 0 = .agg (encU zS).toArray := hf 0 (by decide)
        clear hf hap
        clear zsz
        subst ha0
        simp only [slotsPn2, putAll, h0, Act.put, List.setIfInBounds_toArray, List.set_cons_zero, List.set_cons_succ]
        clear h0
        refine tl_store rfl (by kernel_rfl) 24 (.tmp 2) (.tmp 21) rfl g2 (encU zS) _ rfl rfl _ (HX2.out.keepB hS) (by rw [encU_len]; kernel_rfl) (by simp only [encU_len]) (encU_all _) ?_
        intro w5 hp hbl hot
        have HP := Lib.hid hp
        have HF := Lib.hid ((HB.out.trans (hS.mono HB.out.size)).trans (hbl _ HGg2.out))
        clear hp hbl hot hS
        simp only [Act.put]
        refine tl_pure rfl (by kernel_rfl) (.bool false) (ex_assign _ rfl rfl) ?_
        try simp only [Act.put, List.setIfInBounds_toArray, List.set_cons_zero, List.set_cons_succ]
        refine tl_pure rfl (by kernel_rfl) (.bool false) (ex_assign _ rfl rfl) ?_
        try simp only [Act.put, List.setIfInBounds_toArray, List.set_cons_zero, List.set_cons_succ]
        refine tl_nil ?_
        go_wp2_with fail
        (try simp only [Exit.inBlock, Exit.then])
        refine bodyPost_ret (v := .tuple #[.agg (encU zS).toArray, .bool false, .bool false]) ?_ rfl ⟨⟨_, rfl, (pureV_off hp).symm⟩, HF.out⟩
        exact results_cell3A rfl _ _ g2 24 _ (0, 0) 32 5 rfl HP.out _ _ rfl rfl Tryd.underlying24 (by rw [List.size_toArray, encU_len]; kernel_rfl)
    · have e2 : (c.1 != (-1 : Int)) = true := by simp [k2]
      have hp : isPure c = false := by simp [isPure, k1, k2]
      refine wp_act (fun a0 ha0 => ?_)
      have zsz : a0.tmps.size = 27 := by rw [ha0]; rfl
      have z1 : a0.eval (.tmp 1) = .pointer (some ⟨g1, 0, none⟩) := by rw [ha0]; rfl
      refine wp_region_flw (E := Flz) [] slotsPz5 waitPz5 [Fct.val Flz 0 (.pointer (some ⟨g1, 0, none⟩)), Fct.val Flz 1 (.int .i64 (c.1)), Fct.val Flz 2 (.bool true), Fct.val Flz 3 (.bool true), Fct.val Flz 4 (.pointer (some ⟨g1, 0, none⟩)), Fct.val Flz 5 (.int .i64 (c.1)), Fct.val Flz 6 (.bool true), Fct.val Flz 7 (.bool true), Fct.val Flz 8 (.bool true), Fct.val Flz 9 (undef), Fct.val Flz 10 (undef), Fct.val Flz 11 (undef), Fct.val Flz 12 (undef), Fct.val Flz 13 (undef), Fct.val Flz 14 (undef), Fct.val Flz 15 (.bool true)] (fun w' => Below w2.drew.heap.size w2.drew w') _ 16 0 chkPz5 (by kernel_rfl) rfl (by kernel_rfl) (by kernel_rfl) (by decide) (Below.refl _ _) ?_ ?_
      · refine lt_s (lt_s (lt_s (lt_s (lt_s (lt_s (lt_s (lt_s (lt_s (lt_s (lt_s (lt_s (lt_s (lt_s (lt_s (lt_s (lt_0) ?_) ?_) ?_) ?_) ?_) ?_) ?_) ?_) ?_) ?_) ?_) ?_) ?_) ?_) ?_) ?_
        · intro f w1 hS hf
          generalize hA : putAll _ _ f = A
          have r1 : A.eval (.tmp 1) = .pointer (some ⟨g1, 0, none⟩) := by rw [← hA]; exact putAll_off f 1 slotsPz5 a0 (by kernel_rfl) z1
          exact flw_val rfl rfl (.pointer (some ⟨g1, 0, none⟩)) (fld0C (.tmp 1) rfl g1 r1) hS (Flz.refl _) (updF_self _ _ _)
        · intro f w1 hS hf
          generalize hA : putAll _ _ f = A
          have h5 : f 0 = .pointer (some ⟨g1, 0, none⟩) := hf 0 (by decide)
          have r5 : A.eval (.tmp 5) = .pointer (some ⟨g1, 0, none⟩) := by rw [← hA]; exact putAll_at f 5 0 slotsPz5 a0 sbPz5 (by kernel_rfl) zsz rfl h5
          exact flw_val rfl rfl (.int .i64 (c.1)) (ex_load1 2 (.tmp 5) rfl ⟨g1, 0, none⟩ r5 (fun _ => by kernel_rfl) ((HX1.out.keepB hS).cellv (encC_0 c))) hS (Flz.refl _) (updF_self _ _ _)
        · intro f w1 hS hf
          generalize hA : putAll _ _ f = A
          have h6 : f 1 = .int .i64 (c.1) := hf 1 (by decide)
          have r6 : A.eval (.tmp 6) = .int .i64 (c.1) := by rw [← hA]; exact putAll_at f 6 1 slotsPz5 a0 sbPz5 (by kernel_rfl) zsz rfl h6
          exact flw_val rfl rfl (.bool true) (Eq.trans (ex_int .neq _ _ (.tmp 6) _ rfl .i64 c.1 1 r6 rfl (.bool (c.1 != (1 : Int))) (fun _ => rfl)) (by rw [e1])) hS (Flz.refl _) (updF_self _ _ _)
        · intro f w1 hS hf
          generalize hA : putAll _ _ f = A
          have h7 : f 2 = .bool true := hf 2 (by decide)
          have r7 : A.eval (.tmp 7) = .bool true := by rw [← hA]; exact putAll_at f 7 2 slotsPz5 a0 sbPz5 (by kernel_rfl) zsz rfl h7
          exact flw_val rfl rfl (.bool true) (ex_move (.tmp 7) rfl r7) hS (Flz.refl _) (updF_self _ _ _)
        · intro f w1 hS hf
          generalize hA : putAll _ _ f = A
          have g8 : f 3 = .bool true := hf 3 (by decide)
          have t8 : A.tmps[8]? = some (.bool true) := by rw [← hA]; exact putAll_g f 8 3 slotsPz5 a0 sbPz5 (by kernel_rfl) zsz rfl g8
          have r1 : A.eval (.tmp 1) = .pointer (some ⟨g1, 0, none⟩) := by rw [← hA]; exact putAll_off f 1 slotsPz5 a0 (by kernel_rfl) z1
          exact flw_val rfl ((wanted_of rfl 8 rfl t8).trans rfl) (.pointer (some ⟨g1, 0, none⟩)) (fld0C (.tmp 1) rfl g1 r1) hS (Flz.refl _) (updF_self _ _ _)
        · intro f w1 hS hf
          generalize hA : putAll _ _ f = A
          have g8 : f 3 = .bool true := hf 3 (by decide)
          have t8 : A.tmps[8]? = some (.bool true) := by rw [← hA]; exact putAll_g f 8 3 slotsPz5 a0 sbPz5 (by kernel_rfl) zsz rfl g8
          have h9 : f 4 = .pointer (some ⟨g1, 0, none⟩) := hf 4 (by decide)
          have r9 : A.eval (.tmp 9) = .pointer (some ⟨g1, 0, none⟩) := by rw [← hA]; exact putAll_at f 9 4 slotsPz5 a0 sbPz5 (by kernel_rfl) zsz rfl h9
          exact flw_val rfl ((wanted_of rfl 8 rfl t8).trans rfl) (.int .i64 (c.1)) (ex_load1 2 (.tmp 9) rfl ⟨g1, 0, none⟩ r9 (fun _ => by kernel_rfl) ((HX1.out.keepB hS).cellv (encC_0 c))) hS (Flz.refl _) (updF_self _ _ _)
        · intro f w1 hS hf
          generalize hA : putAll _ _ f = A
          have g8 : f 3 = .bool true := hf 3 (by decide)
          have t8 : A.tmps[8]? = some (.bool true) := by rw [← hA]; exact putAll_g f 8 3 slotsPz5 a0 sbPz5 (by kernel_rfl) zsz rfl g8
          have h10 : f 5 = .int .i64 (c.1) := hf 5 (by decide)
          have r10 : A.eval (.tmp 10) = .int .i64 (c.1) := by rw [← hA]; exact putAll_at f 10 5 slotsPz5 a0 sbPz5 (by kernel_rfl) zsz rfl h10
          exact flw_val rfl ((wanted_of rfl 8 rfl t8).trans rfl) (.bool true) (Eq.trans (ex_int .neq _ _ (.tmp 10) _ rfl .i64 c.1 ((-1)) r10 rfl (.bool (c.1 != ((-1) : Int))) (fun _ => rfl)) (by rw [e2])) hS (Flz.refl _) (updF_self _ _ _)
        · intro f w1 hS hf
          generalize hA : putAll _ _ f = A
          have h8 : f 3 = .bool true := hf 3 (by decide)
          have r8 : A.eval (.tmp 8) = .bool true := by rw [← hA]; exact putAll_at f 8 3 slotsPz5 a0 sbPz5 (by kernel_rfl) zsz rfl h8
          have h11 : f 6 = .bool true := hf 6 (by decide)
          have r11 : A.eval (.tmp 11) = .bool true := by rw [← hA]; exact putAll_at f 11 6 slotsPz5 a0 sbPz5 (by kernel_rfl) zsz rfl h11
          exact flw_val rfl rfl (.bool true) (ex_pick (.tmp 8) (.tmp 11) _ rfl true r8 ((if_pos rfl).trans r11)) hS (Flz.refl _) (updF_self _ _ _)
        · intro f w1 hS hf
          generalize hA : putAll _ _ f = A
          have h12 : f 7 = .bool true := hf 7 (by decide)
          have r12 : A.eval (.tmp 12) = .bool true := by rw [← hA]; exact putAll_at f 12 7 slotsPz5 a0 sbPz5 (by kernel_rfl) zsz rfl h12
          exact flw_val rfl rfl (.bool true) (ex_move (.tmp 12) rfl r12) hS (Flz.refl _) (updF_self _ _ _)
        · intro f w1 hS hf
          generalize hA : putAll _ _ f = A
          have g13 : f 8 = .bool true := hf 8 (by decide)
          have t13 : A.tmps[13]? = some (.bool true) := by rw [← hA]; exact putAll_g f 13 8 slotsPz5 a0 sbPz5 (by kernel_rfl) zsz rfl g13
          exact flw_skip rfl ((wanted_of rfl 13 rfl t13).trans rfl) hS (Flz.refl _) (updF_self _ _ _)
        · intro f w1 hS hf
          generalize hA : putAll _ _ f = A
          have g13 : f 8 = .bool true := hf 8 (by decide)
          have t13 : A.tmps[13]? = some (.bool true) := by rw [← hA]; exact putAll_g f 13 8 slotsPz5 a0 sbPz5 (by kernel_rfl) zsz rfl g13
          exact flw_skip rfl ((wanted_of rfl 13 rfl t13).trans rfl) hS (Flz.refl _) (updF_self _ _ _)
        · intro f w1 hS hf
          generalize hA : putAll _ _ f = A
          have g13 : f 8 = .bool true := hf 8 (by decide)
          have t13 : A.tmps[13]? = some (.bool true) := by rw [← hA]; exact putAll_g f 13 8 slotsPz5 a0 sbPz5 (by kernel_rfl) zsz rfl g13
          exact flw_skip rfl ((wanted_of rfl 13 rfl t13).trans rfl) hS (Flz.refl _) (updF_self _ _ _)
        · intro f w1 hS hf
          generalize hA : putAll _ _ f = A
          have g13 : f 8 = .bool true := hf 8 (by decide)
          have t13 : A.tmps[13]? = some (.bool true) := by rw [← hA]; exact putAll_g f 13 8 slotsPz5 a0 sbPz5 (by kernel_rfl) zsz rfl g13
          exact flw_skip rfl ((wanted_of rfl 13 rfl t13).trans rfl) hS (Flz.refl _) (updF_self _ _ _)
        · intro f w1 hS hf
          generalize hA : putAll _ _ f = A
          have g13 : f 8 = .bool true := hf 8 (by decide)
          have t13 : A.tmps[13]? = some (.bool true) := by rw [← hA]; exact putAll_g f 13 8 slotsPz5 a0 sbPz5 (by kernel_rfl) zsz rfl g13
          exact flw_skip rfl ((wanted_of rfl 13 rfl t13).trans rfl) hS (Flz.refl _) (updF_self _ _ _)
        · intro f w1 hS hf
          generalize hA : putAll _ _ f = A
          have g13 : f 8 = .bool true := hf 8 (by decide)
          have t13 : A.tmps[13]? = some (.bool true) := by rw [← hA]; exact putAll_g f 13 8 slotsPz5 a0 sbPz5 (by kernel_rfl) zsz rfl g13
          exact flw_skip rfl ((wanted_of rfl 13 rfl t13).trans rfl) hS (Flz.refl _) (updF_self _ _ _)
        · intro f w1 hS hf
          generalize hA : putAll _ _ f = A
          have h13 : f 8 = .bool true := hf 8 (by decide)
          have r13 : A.eval (.tmp 13) = .bool true := by rw [← hA]; exact putAll_at f 13 8 slotsPz5 a0 sbPz5 (by kernel_rfl) zsz rfl h13
          exact flw_val rfl rfl (.bool true) (ex_pick (.tmp 13) _ (.tmp 19) rfl true r13 ((if_pos rfl).trans rfl)) hS (Flz.refl _) (updF_self _ _ _)
      intro f w3 hS hf hap
      have h0 : f 0 = .pointer (some ⟨g1, 0, none⟩) := hf 0 (by decide)
      have h1 : f 1 = .int .i64 (c.1) := hf 1 (by decide)
      have h2 : f 2 = .bool true := hf 2 (by decide)
      have h3 : f 3 = .bool true := hf 3 (by decide)
      have h4 : f 4 = .pointer (some ⟨g1, 0, none⟩) := hf 4 (by decide)
      have h5 : f 5 = .int .i64 (c.1) := hf 5 (by decide)
      have h6 : f 6 = .bool true := hf 6 (by decide)
      have h7 : f 7 = .bool true := hf 7 (by decide)
      have h8 : f 8 = .bool true := hf 8 (by decide)
      have h9 : f 9 = undef := hf 9 (by decide)
      have h10 : f 10 = undef := hf 10 (by decide)
      have h11 : f 11 = undef := hf 11 (by decide)
      have h12 : f 12 = undef := hf 12 (by decide)
      have h13 : f 13 = undef := hf 13 (by decide)
      have h14 : f 14 = undef := hf 14 (by decide)
      have h15 : f 15 = .bool true := hf 15 (by decide)
      clear hf hap
      clear zsz z1
      subst ha0
      simp only [slotsPz5, putAll, h0, h1, h2, h3, h4, h5, h6, h7, h8, h9, h10, h11, h12, h13, h14, h15, Act.put, List.setIfInBounds_toArray, List.set_cons_zero, List.set_cons_succ]
      clear h0 h1 h2 h3 h4 h5 h6 h7 h8 h9 h10 h11 h12 h13 h14 h15
      refine tl_nilN ?_
      replace HX1 := Lib.hid (HX1.out.keepB hS)
      replace HX2 := Lib.hid (HX2.out.keepB hS)
      replace HB := Lib.hid (HB.out.trans (hS.mono HB.out.size))
      clear hS
      go_upto_region 2 with fail
      refine wp_act (fun a0 ha0 => ?_)
      have zsz : a0.tmps.size = 27 := by rw [ha0]; rfl
      refine wp_region_flwo (E := Flz) [] slotsPn2 waitPn2 [Fct.val Flz 0 (.agg (encU zS).toArray)] (fun w' => Below w3.heap.size w3 w') _ 1 3 chkPn2 (by kernel_rfl) rfl (by kernel_rfl) (by decide) (Below.refl _ _) ?_ ?_
      · refine lt_s (lt_0) ?_
        · intro f w1 hS hf
          generalize hA : putAll _ _ f = A
          exact flw_val rfl rfl (.agg (encU zS).toArray) (ex_build 24 _ rfl (encU zS).toArray [] (by kernel_rfl) (by kernel_rfl)) hS (Flz.refl _) (updF_self _ _ _)
      intro f w4 hS hf hap
      have h0 : f 0 = .agg (encU zS).toArray := hf 0 (by decide)
      clear hf hap
      clear zsz
      subst ha0
      simp only [slotsPn2, putAll, h0, Act.put, List.setIfInBounds_toArray, List.set_cons_zero, List.set_cons_succ]
      clear h0
      refine tl_store rfl (by kernel_rfl) 24 (.tmp 2) (.tmp 21) rfl g2 (encU zS) _ rfl rfl _ (HX2.out.keepB hS) (by rw [encU_len]; kernel_rfl) (by simp only [encU_len]) (encU_all _) ?_
      intro w5 hp hbl hot
      have HP := Lib.hid hp
      have HF := Lib.hid ((HB.out.trans (hS.mono HB.out.size)).trans (hbl _ HGg2.out))
      clear hp hbl hot hS
      simp only [Act.put]
      refine tl_pure rfl (by kernel_rfl) (.bool false) (ex_assign _ rfl rfl) ?_
      try simp only [Act.put, List.setIfInBounds_toArray, List.set_cons_zero, List.set_cons_succ]
      refine tl_pure rfl (by kernel_rfl) (.bool false) (ex_assign _ rfl rfl) ?_
      try simp only [Act.put, List.setIfInBounds_toArray, List.set_cons_zero, List.set_cons_succ]
      refine tl_nil ?_
      go_wp2_with fail
      (try simp only [Exit.inBlock, Exit.then])
      refine bodyPost_ret (v := .tuple #[.agg (encU zS).toArray, .bool false, .bool false]) ?_ rfl ⟨⟨_, rfl, (pureV_off hp).symm⟩, HF.out⟩
      exact results_cell3A rfl _ _ g2 24 _ (0, 0) 32 5 rfl HP.out _ _ rfl rfl Tryd.underlying24 (by rw [List.size_toArray, encU_len]; kernel_rfl)
theorem pure_any (c : Ce) (w : World) (hL : Laid w) : Calls Tryd.prog 12 #[aggC c] w fun e w' => (∃ v, e = .returned v ∧ v = pureV c) ∧ Below w.heap.size w w' := pure_b c w w (Below.refl _ _) hL
end Go.Proofs.YtihkbblapfjobaaDoor
