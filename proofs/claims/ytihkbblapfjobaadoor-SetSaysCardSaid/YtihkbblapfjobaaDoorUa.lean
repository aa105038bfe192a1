/- Contract: the law's own awake: true. No condition. -/
import Derived.Test.YtihkbblapfjobaaDoorGh
import Derived.Test.YtihkbblapfjobaaDoorUp
namespace Go.Proofs.YtihkbblapfjobaaDoor
open Go.RowKit
def s1 : Su := su1 1
def s2 : Su := su1 2
theorem b1 : Tryd.prog.built 24 [(0, .int .u8 1)] = some (encU s1).toArray := built_one 1 1 rfl
theorem b2 : Tryd.prog.built 24 [(0, .int .u8 2)] = some (encU s2).toArray := built_one 2 2 rfl
/-- The sum of a one, written out. -/
def l1 : Array Value := #[.int .u8 1, .int .u8 0, .int .u8 0, .int .u8 0, .int .u8 0, .int .u8 0, .int .u8 0, .int .u8 0, .int .u8 0, .int .u8 0, .int .u8 0, .int .u8 0, .int .u8 0, .int .u8 0, .int .u8 0, .int .u8 0, .int .u8 0, .int .u8 0, .int .u8 0, .int .u8 0, .int .u8 0, .int .u8 0, .int .u8 0, .int .u8 0, .int .u8 0, .int .u8 0, .int .u8 0, .int .u8 0, .int .u8 0, .int .u8 0, .int .u8 0, .int .u8 0]
theorem aw_srt : srt [s2, s1, s2] = [s1, s2] := by kernel_rfl
theorem aw_good : goodU [s1, s2] = true := by kernel_rfl
theorem aw_min : minU [s1, s2] [s2] = [s1] := by kernel_rfl
theorem aw_good1 : goodU [s1] = true := by kernel_rfl
theorem aw_srt2 : srt [s2] = [s2] := by kernel_rfl
theorem aw_srt1 : srt [s1] = [s1] := by kernel_rfl
theorem aw_same : (goodU [s1] && decide ([s1] = [s1])) = true := by rw [aw_good1, decide_eq_true rfl]; rfl
set_option maxHeartbeats 16000000 in
set_option maxRecDepth 100000 in
theorem awake10_any (w : World) : Calls Tryd.prog 23 #[] w fun e w' => e = .returned (.bool true) ∧ Below w.heap.size w w' := by
  go_enter Tryd.func23, Tryd.ntmps23
  go_upto_region 1 with fail
  obtain ⟨w0, hw0⟩ : ∃ x, x = w := ⟨_, rfl⟩
  have HB : Hid (Below w.heap.size w w0) := Lib.hid (by rw [hw0]; exact Below.refl _ _)
  rw [← hw0]
  clear hw0
  refine wp_region_lit ?_
  try simp only [Act.put, List.setIfInBounds_toArray, List.set_cons_zero, List.set_cons_succ]
  refine lp_pure (by kernel_rfl) (build_su 24 _ rfl s2 [(0, .int .u8 2)] (by kernel_rfl) b2) ?_
  try simp only [Act.put, List.setIfInBounds_toArray, List.set_cons_zero, List.set_cons_succ]
  refine lp_pure (by kernel_rfl) (build_su 24 _ rfl s1 [(0, .int .u8 1)] (by kernel_rfl) b1) ?_
  try simp only [Act.put, List.setIfInBounds_toArray, List.set_cons_zero, List.set_cons_succ]
  refine lp_pure (by kernel_rfl) (build_su 24 _ rfl s2 [(0, .int .u8 2)] (by kernel_rfl) b2) ?_
  try simp only [Act.put, List.setIfInBounds_toArray, List.set_cons_zero, List.set_cons_succ]
  refine lp_step (by kernel_rfl) (fun K hK => wp_lit_su 48 24 elSum 3 _ rfl [s2, s1, s2] rfl (by decide) (by decide) (by kernel_rfl) (hK _ _ ?_))
  try simp only [Act.put, List.setIfInBounds_toArray, List.set_cons_zero, List.set_cons_succ]
  have hb : Below w0.heap.size w0 (w0.alloc (.cells (rowU [s2, s1, s2]).toArray 24)) := (Below.refl _ _).alloc (Nat.le_refl _) _
  have hu : U (w0.alloc (.cells (rowU [s2, s1, s2]).toArray 24)) (some ⟨w0.heap.size, 0, none⟩) 3 3 [s2, s1, s2] := ⟨rfl, Nat.le_refl _, fun h => (by cases h), Sees.of_has (Has.made' w0 _ _ _ rfl) (by simp)⟩
  have UL := Lib.hid hu
  clear hu
  replace HB := Lib.hid (HB.out.trans (hb.mono HB.out.size))
  clear hb
  generalize hg : w0.heap.size = gy1 at UL ⊢
  generalize w0.alloc (.cells (rowU [s2, s1, s2]).toArray 24) = y1 at *
  clear hg
  refine lp_step (by kernel_rfl) (fun K hK => ?_)
  go_wp2_with fail
  refine Calls.mono (u_of UL.out (by decide)) ?_
  rintro e y2 ⟨⟨qUA, nUA, cUA, rfl, h1⟩, hb⟩
  replace UL := Lib.hid (UL.out.keep hb)
  replace HB := Lib.hid (HB.out.trans (hb.mono HB.out.size))
  clear hb
  have UA := Lib.hid (h1.eq aw_srt)
  clear h1
  refine hK _ _ ?_
  clear hK
  try simp only [Act.put, List.setIfInBounds_toArray, List.set_cons_zero, List.set_cons_succ]
  clear UL
  obtain rfl : nUA = 2 := UA.out.len.symm
  refine lp_pure (v := ?_) (by kernel_rfl) ?_ ?_
  rotate_left
  · go_simp; try with_reducible rfl
  try simp only [Act.put, List.setIfInBounds_toArray, List.set_cons_zero, List.set_cons_succ]
  refine wpList_nil ?_
  go_upto_region 2 with fail
  refine wp_region_lit ?_
  try simp only [Act.put, List.setIfInBounds_toArray, List.set_cons_zero, List.set_cons_succ]
  refine lp_pure (v := ?_) (by kernel_rfl) ?_ ?_
  rotate_left
  · go_simp; try with_reducible rfl
  try simp only [Act.put, List.setIfInBounds_toArray, List.set_cons_zero, List.set_cons_succ]
  refine lp_pure (v := ?_) (by kernel_rfl) ?_ ?_
  rotate_left
  · go_simp; try with_reducible rfl
  try simp only [Act.put, List.setIfInBounds_toArray, List.set_cons_zero, List.set_cons_succ]
  refine lp_pure (v := ?_) (by kernel_rfl) ?_ ?_
  rotate_left
  · go_simp; try with_reducible rfl
  try simp only [Act.put, List.setIfInBounds_toArray, List.set_cons_zero, List.set_cons_succ]
  refine lp_pure (v := ?_) (by kernel_rfl) ?_ ?_
  rotate_left
  · go_simp; try with_reducible rfl
  try simp only [Act.put, List.setIfInBounds_toArray, List.set_cons_zero, List.set_cons_succ]
  refine lp_pure (v := ?_) (by kernel_rfl) ?_ ?_
  rotate_left
  · go_simp; try with_reducible rfl
  try simp only [Act.put, List.setIfInBounds_toArray, List.set_cons_zero, List.set_cons_succ]
  obtain ⟨pA, rfl, _, hc⟩ := Ss.el UA.out.2.2.2 (i := 0) (by simp)
  have HC := Lib.hid (hc y2 (Below.refl _ _))
  clear hc
  refine lp_pure (v := ?_) (by kernel_rfl) ?_ ?_
  rotate_left
  · go_simp; try with_reducible rfl
  try simp only [Act.put, List.setIfInBounds_toArray, List.set_cons_zero, List.set_cons_succ]
  refine lp_pure (by kernel_rfl) (load_su 24 (.tmp 12) rfl _ rfl elSum.2.1 szSum s1 HC.out) ?_
  try simp only [Act.put, List.setIfInBounds_toArray, List.set_cons_zero, List.set_cons_succ]
  refine lp_pure (by kernel_rfl) (build_su 24 _ rfl s1 [(0, .int .u8 1)] (by kernel_rfl) b1) ?_
  try simp only [Act.put, List.setIfInBounds_toArray, List.set_cons_zero, List.set_cons_succ]
  refine lp_pure (v := .bool true) (by kernel_rfl) ((eql_su 24 (.tmp 13) (.tmp 14) _ rfl s1 s1 rfl rfl elSum.2.1 gdSum).trans (by rw [decide_eq_true rfl])) ?_
  try simp only [Act.put, List.setIfInBounds_toArray, List.set_cons_zero, List.set_cons_succ]
  clear HC
  refine lp_pure (v := ?_) (by kernel_rfl) ?_ ?_
  rotate_left
  · go_simp; try with_reducible rfl
  try simp only [Act.put, List.setIfInBounds_toArray, List.set_cons_zero, List.set_cons_succ]
  refine lp_pure (v := ?_) (by kernel_rfl) ?_ ?_
  rotate_left
  · go_simp; try with_reducible rfl
  try simp only [Act.put, List.setIfInBounds_toArray, List.set_cons_zero, List.set_cons_succ]
  refine lp_pure (v := ?_) (by kernel_rfl) ?_ ?_
  rotate_left
  · go_simp; try with_reducible rfl
  try simp only [Act.put, List.setIfInBounds_toArray, List.set_cons_zero, List.set_cons_succ]
  refine lp_step (by kernel_rfl) (fun K hK => ?_)
  go_wp2_with fail
  refine Calls.mono (u_good UA.out (by decide) true aw_good) ?_
  rintro e y3 ⟨rfl, hb⟩
  replace UA := Lib.hid (UA.out.keep hb)
  replace HB := Lib.hid (HB.out.trans (hb.mono HB.out.size))
  clear hb
  refine hK _ _ ?_
  clear hK
  try simp only [Act.put, List.setIfInBounds_toArray, List.set_cons_zero, List.set_cons_succ]
  refine lp_pure (v := ?_) (by kernel_rfl) ?_ ?_
  rotate_left
  · go_simp; try with_reducible rfl
  try simp only [Act.put, List.setIfInBounds_toArray, List.set_cons_zero, List.set_cons_succ]
  refine lp_pure (v := ?_) (by kernel_rfl) ?_ ?_
  rotate_left
  · go_simp; try with_reducible rfl
  try simp only [Act.put, List.setIfInBounds_toArray, List.set_cons_zero, List.set_cons_succ]
  refine lp_pure (v := ?_) (by kernel_rfl) ?_ ?_
  rotate_left
  · go_simp; try with_reducible rfl
  try simp only [Act.put, List.setIfInBounds_toArray, List.set_cons_zero, List.set_cons_succ]
  refine lp_pure (by kernel_rfl) (build_su 24 _ rfl s2 [(0, .int .u8 2)] (by kernel_rfl) b2) ?_
  try simp only [Act.put, List.setIfInBounds_toArray, List.set_cons_zero, List.set_cons_succ]
  refine lp_step (by kernel_rfl) (fun K hK => wp_one_su 48 24 elSum _ rfl s2 rfl (hK _ _ ?_))
  try simp only [Act.put, List.setIfInBounds_toArray, List.set_cons_zero, List.set_cons_succ]
  have hb : Below y3.heap.size y3 (y3.alloc (.cells (encU s2).toArray 24)) := (Below.refl _ _).alloc (Nat.le_refl _) _
  have hu : U (y3.alloc (.cells (encU s2).toArray 24)) (some ⟨y3.heap.size, 0, none⟩) 1 1 [s2] := ⟨rfl, Nat.le_refl _, fun h => (by cases h), Ss.one (Has.made' y3 _ _ _ rfl) (by simp)⟩
  have U2 := Lib.hid hu
  clear hu
  replace UA := Lib.hid (UA.out.keep hb)
  replace HB := Lib.hid (HB.out.trans (hb.mono HB.out.size))
  clear hb
  generalize hg : y3.heap.size = gy4 at U2 ⊢
  generalize y3.alloc (.cells (encU s2).toArray 24) = y4 at *
  clear hg
  refine lp_step (by kernel_rfl) (fun K hK => ?_)
  go_wp2_with fail
  refine Calls.mono (u_of U2.out (by decide)) ?_
  rintro e y5 ⟨⟨qU3, nU3, cU3, rfl, h1⟩, hb⟩
  replace UA := Lib.hid (UA.out.keep hb)
  replace U2 := Lib.hid (U2.out.keep hb)
  replace HB := Lib.hid (HB.out.trans (hb.mono HB.out.size))
  clear hb
  have U3 := Lib.hid (h1.eq aw_srt2)
  clear h1
  refine hK _ _ ?_
  clear hK
  try simp only [Act.put, List.setIfInBounds_toArray, List.set_cons_zero, List.set_cons_succ]
  clear U2
  obtain rfl : nU3 = 1 := U3.out.len.symm
  refine lp_step (by kernel_rfl) (fun K hK => ?_)
  go_wp2_with fail
  refine Calls.mono (u_minus UA.out U3.out (by decide) (by decide)) ?_
  rintro e y6 ⟨⟨qU4, nU4, cU4, rfl, h1⟩, hb⟩
  replace UA := Lib.hid (UA.out.keep hb)
  replace U3 := Lib.hid (U3.out.keep hb)
  replace HB := Lib.hid (HB.out.trans (hb.mono HB.out.size))
  clear hb
  have U4 := Lib.hid (h1.eq aw_min)
  clear h1
  refine hK _ _ ?_
  clear hK
  try simp only [Act.put, List.setIfInBounds_toArray, List.set_cons_zero, List.set_cons_succ]
  clear U3
  obtain rfl : nU4 = 1 := U4.out.len.symm
  refine lp_pure (by kernel_rfl) (build_su 24 _ rfl s1 [(0, .int .u8 1)] (by kernel_rfl) b1) ?_
  try simp only [Act.put, List.setIfInBounds_toArray, List.set_cons_zero, List.set_cons_succ]
  refine lp_step (by kernel_rfl) (fun K hK => wp_one_su 48 24 elSum _ rfl s1 rfl (hK _ _ ?_))
  try simp only [Act.put, List.setIfInBounds_toArray, List.set_cons_zero, List.set_cons_succ]
  have hb : Below y6.heap.size y6 (y6.alloc (.cells (encU s1).toArray 24)) := (Below.refl _ _).alloc (Nat.le_refl _) _
  have hu : U (y6.alloc (.cells (encU s1).toArray 24)) (some ⟨y6.heap.size, 0, none⟩) 1 1 [s1] := ⟨rfl, Nat.le_refl _, fun h => (by cases h), Ss.one (Has.made' y6 _ _ _ rfl) (by simp)⟩
  have U5 := Lib.hid hu
  clear hu
  replace UA := Lib.hid (UA.out.keep hb)
  replace U4 := Lib.hid (U4.out.keep hb)
  replace HB := Lib.hid (HB.out.trans (hb.mono HB.out.size))
  clear hb
  generalize hg : y6.heap.size = gy7 at U5 ⊢
  generalize y6.alloc (.cells (encU s1).toArray 24) = y7 at *
  clear hg
  refine lp_step (by kernel_rfl) (fun K hK => ?_)
  go_wp2_with fail
  refine Calls.mono (u_of U5.out (by decide)) ?_
  rintro e y8 ⟨⟨qU6, nU6, cU6, rfl, h1⟩, hb⟩
  replace UA := Lib.hid (UA.out.keep hb)
  replace U4 := Lib.hid (U4.out.keep hb)
  replace U5 := Lib.hid (U5.out.keep hb)
  replace HB := Lib.hid (HB.out.trans (hb.mono HB.out.size))
  clear hb
  have U6 := Lib.hid (h1.eq aw_srt1)
  clear h1
  refine hK _ _ ?_
  clear hK
  try simp only [Act.put, List.setIfInBounds_toArray, List.set_cons_zero, List.set_cons_succ]
  clear U5
  obtain rfl : nU6 = 1 := U6.out.len.symm
  refine lp_step (by kernel_rfl) (fun K hK => ?_)
  go_wp2_with fail
  refine Calls.mono (u_same U4.out U6.out (by decide) true aw_same) ?_
  rintro e y9 ⟨rfl, hb⟩
  replace UA := Lib.hid (UA.out.keep hb)
  replace U4 := Lib.hid (U4.out.keep hb)
  replace U6 := Lib.hid (U6.out.keep hb)
  replace HB := Lib.hid (HB.out.trans (hb.mono HB.out.size))
  clear hb
  refine hK _ _ ?_
  clear hK
  try simp only [Act.put, List.setIfInBounds_toArray, List.set_cons_zero, List.set_cons_succ]
  refine lp_pure (v := ?_) (by kernel_rfl) ?_ ?_
  rotate_left
  · go_simp; try with_reducible rfl
  try simp only [Act.put, List.setIfInBounds_toArray, List.set_cons_zero, List.set_cons_succ]
  refine lp_pure (v := ?_) (by kernel_rfl) ?_ ?_
  rotate_left
  · go_simp; try with_reducible rfl
  try simp only [Act.put, List.setIfInBounds_toArray, List.set_cons_zero]
  refine wpList_nil ?_
  go_wp2_with fail
  go_ret
  exact ⟨rfl, HB.out⟩
end Go.Proofs.YtihkbblapfjobaaDoor
