/- The calls and answers that the document names for package recipe (RecipeKnown): the law returns true. No condition. -/
import Derived.Test.YtmjonlffhhehjaaGreatDoorBk1
import Derived.Test.YtmjonlffhhehjaaGreatDoorCards
import Derived.Test.YtmjonlffhhehjaaGreatDoorTie
import Derived.ShutString
import Derived.ChangeOld
import Derived.SevenTiedAt
/- The law RecipeKnown: it answers true. Condition: the sums' tables are laid. -/
namespace Go.Proofs.YtmjonlffhhehjaaGreatDoor
open Go.RowKit
set_option linter.unusedSimpArgs false
theorem built_e0 : Tryz.prog.built 47 [] = some #[.string ⟨#[]⟩, .bool false, .slice none 0 0] := by kernel_rfl
theorem wp_one_en {o : Oper} {a : Act} {w : World} {Q : Exit → Act → World → Prop} {K : Act → World → Prop} (x : Operand) (ho : o.op = .buildSlice 26 1 #[(0, x)]) (e : Ent) (hx : a.eval x = entV e)
    (h : K (a.put o.dst (.slice (some ⟨w.heap.size, 0, none⟩) 1 1)) (w.alloc (.cells (rowC [e]).toArray 47))) : o.wp Tryz.prog a w K Q := by
  obtain ⟨i0, hi, hz0, hz1, hz2⟩ := info_parts ent_infoT
  refine wp_buildSlice 26 47 1 _ ho (rowC [e]).toArray i0 _ Tryz.underlying26 hi hz0 (by rw [hz1]; omega) (by rw [hz1]; omega) ?_ h
  rw [hz1]
  simp only [List.map_toArray, List.map_cons, List.map_nil, hx]
  obtain ⟨e1, e2, e3, e4⟩ := e
  kernel_rfl
theorem wp_three_en {o : Oper} {a : Act} {w : World} {Q : Exit → Act → World → Prop} {K : Act → World → Prop} (x y z : Operand) (ho : o.op = .buildSlice 26 3 #[(0, x), (1, y), (2, z)]) (e f k : Ent) (hx : a.eval x = entV e) (hy : a.eval y = entV f) (hz : a.eval z = entV k)
    (h : K (a.put o.dst (.slice (some ⟨w.heap.size, 0, none⟩) 3 3)) (w.alloc (.cells (rowC [e, f, k]).toArray 47))) : o.wp Tryz.prog a w K Q := by
  obtain ⟨i0, hi, hz0, hz1, hz2⟩ := info_parts ent_infoT
  refine wp_buildSlice 26 47 3 _ ho (rowC [e, f, k]).toArray i0 _ Tryz.underlying26 hi hz0 (by rw [hz1]; omega) (by rw [hz1]; omega) ?_ h
  rw [hz1]
  simp only [List.map_toArray, List.map_cons, List.map_nil, hx, hy, hz]
  obtain ⟨e1, e2, e3, e4⟩ := e
  obtain ⟨f1, f2, f3, f4⟩ := f
  obtain ⟨k1, k2, k3, k4⟩ := k
  kernel_rfl
theorem smL_small (n1 n2 : Value) : ∀ l ∈ smL n1 n2, l.2.2.2.2.length ≤ 1000000 := fun l hl => by
  rcases List.mem_cons.1 hl with rfl | hl
  · exact (show 0 ≤ 1000000 by decide)
  · rw [List.mem_singleton.1 hl]; exact (show 1 ≤ 1000000 by decide)
/-- The law's own recipeOf, of some. -/
theorem rof_some {w : World} {q : Option Addr} {c : Nat} {n1 n2 : Value} (h : LF w (.slice q 2 c) (smL n1 n2)) :
    Calls Tryz.prog 17 #[.slice q 2 c] w fun e w' => (∃ q' c' m1 m2, e = .returned (.slice q' 2 c') ∧ LF w' (.slice q' 2 c') (smL m1 m2)) ∧ Below w.heap.size w w' := by
  obtain ⟨⟨q0, c0, hv, _, _, hs⟩, hb⟩ := h
  injection hv with e1 _ e3
  subst e1 e3
  refine (recipeOf_any (smL n1 n2) q c w (show 2 ≤ 1000000 by decide) (smL_small _ _) hs hb).mono ?_
  rintro e w' ⟨⟨v, R, rfl, hv, ho, hk⟩, hb'⟩
  obtain ⟨m1, m2, rfl⟩ := smL_of hk
  have hl : LF w' v (smL m1 m2) := ⟨hv, ho.lnb⟩
  obtain ⟨q', c', rfl, _⟩ := hv
  exact ⟨⟨q', c', m1, m2, rfl, hl⟩, hb'⟩
theorem same_some {w : World} {qa qb : Option Addr} {ca cb : Nat} {n1 n2 m1 m2 : Value} (ha : LF w (.slice qa 2 ca) (smL n1 n2)) (hb : LF w (.slice qb 2 cb) (smL m1 m2)) :
    Calls Tryz.prog 16 #[.slice qa 2 ca, .slice qb 2 cb] w fun e w' => e = .returned (.bool true) ∧ Below w.heap.size w w' := by
  obtain ⟨⟨q0, c0, hv, _, _, hs⟩, hl⟩ := ha
  injection hv with e1 _ e3
  subst e1 e3
  obtain ⟨⟨q1, c1, hv, _, _, hs1⟩, hl1⟩ := hb
  injection hv with e1 _ e3
  subst e1 e3
  exact sameR_any (smL n1 n2) (smL m1 m2) qa qb ca cb w (show 2 ≤ 1000000 by decide) (smL_small _ _) hs hs1 hl hl1 true ⟨fun _ => rfl, fun _ => rfl⟩
set_option maxHeartbeats 32000000 in
set_option maxRecDepth 100000 in
theorem recipeKnown_any (w : World) (hL : Laid w) : Calls Tryz.prog 3 #[] w fun e w' => e = .returned (.bool true) ∧ Below w.heap.size w w' := by
  have HL := Lib.hid hL
  have HSZ := Lib.hid hL.size
  have HAW := Lib.hid (awake12_any w hL)
  clear hL
  go_enter Tryz.func3, Tryz.ntmps3
  go_upto_region 3 with ((with_reducible refine HAW.out.mono ?_); rintro e w0 ⟨rfl, h2⟩; have HB0 := Lib.hid h2; clear h2)
  clear HAW
  have HSM := Lib.hid (some12_any w0)
  refine wp_region_lit ?_
  try simp only [Act.put, List.setIfInBounds_toArray, List.set_cons_zero, List.set_cons_succ]
  refine lp_step (by kernel_rfl) (fun K hK => ?_)
  go_wp2_with fail
  refine Calls.mono (HSM.out) ?_
  rintro e w1 ⟨⟨v1, vb1, rfl, ⟨q1, c1, rfl, hc1, hq1, hs1⟩, hE1⟩, hb⟩
  have HB1 := Lib.hid (HB0.out.trans (hb.mono HB0.out.size))
  have HOF : Hid (Calls Tryz.prog 9 #[.agg #[.slice q1 2 c1]] w1 fun e w' => (∃ v R, e = .returned v ∧ LnV w' v R ∧ LnO w' w1.heap.size 31 R ∧ R.map keyL = ofP (smT vb1)) ∧ Below w1.heap.size w1 w') := Lib.hid (of12_any (smT vb1) q1 c1 w1 (show (smT vb1).length ≤ 1000 from Nat.le_of_ble_eq_true rfl) hc1 hq1 (show bytesT (smT vb1) ≤ 4611686018427387904 from Nat.le_of_ble_eq_true rfl) (fun e he => by
    rcases List.mem_cons.1 he with rfl | he
    · exact Nat.lt_of_lt_of_le (show pA.size < 10 by decide) (by omega)
    · rw [List.mem_singleton.1 he]; exact Nat.lt_of_lt_of_le (show pAB.size < 10 by decide) (by omega)) hs1 hE1 (HL.out.keep HB1.out HSZ.out))
  have hv1 : (Value.slice q1 (smT vb1).length c1) = .slice q1 2 c1 := rfl
  rw [hv1]
  clear hb hc1 hq1 hs1 hE1 hv1 HSM HB0
  refine hK _ _ ?_
  clear hK
  try simp only [Act.put, List.setIfInBounds_toArray, List.set_cons_zero, List.set_cons_succ]
  refine lp_step (by kernel_rfl) (fun K hK => ?_)
  go_wp2_with fail
  refine Calls.mono (HOF.out) ?_
  rintro e w2 ⟨⟨v2, R, rfl, hv2, hln, hkey⟩, hb⟩
  have HB2 := Lib.hid (HB1.out.trans (hb.mono HB1.out.size))
  rw [smT_of] at hkey
  obtain ⟨n1, n2, rfl⟩ := smL_of hkey
  have hlf : LF w2 v2 (smL n1 n2) := ⟨hv2, hln.lnb⟩
  obtain ⟨q2, c2, rfl, _, _, _⟩ := hv2
  have hv3 : (Value.slice q2 (smL n1 n2).length c2) = .slice q2 2 c2 := rfl
  rw [hv3] at hlf ⊢
  have HR := Lib.hid hlf
  clear hb hkey hln hv3 HOF HB1 hlf
  refine hK _ _ ?_
  clear hK
  try simp only [Act.put, List.setIfInBounds_toArray, List.set_cons_zero, List.set_cons_succ]
  refine lp_pure (v := ?_) (by kernel_rfl) ?_ ?_
  rotate_left
  · go_simp; try with_reducible rfl
  try simp only [Act.put, List.setIfInBounds_toArray, List.set_cons_zero, List.set_cons_succ]
  refine wpList_nil ?_
  go_upto_region 4 with fail
  have HM2049 := Lib.hid (fun wx => runS_made 2049 (by decide) wx)
  have hw : World.heap w2 = World.heap w2 := rfl
  clear hw
  refine wp_region_lit ?_
  try simp only [Act.put, List.setIfInBounds_toArray, List.set_cons_zero, List.set_cons_succ]
  refine lp_pure (by kernel_rfl) (build_val 34 _ rfl (encL (pC, false, zSu, .slice none 0 0, [])).toArray [(0, .string pC)] (by kernel_rfl) (built_b0 pC)) ?_
  try simp only [Act.put, List.setIfInBounds_toArray, List.set_cons_zero, List.set_cons_succ]
  refine lp_step (by kernel_rfl) (fun K hK => wp_one_ln 24 34 elLn (.tmp 31) rfl (pC, false, zSu, .slice none 0 0, []) rfl (hK _ _ ?_))
  try simp only [Act.put, List.setIfInBounds_toArray, List.set_cons_zero, List.set_cons_succ]
  have HA : Hid (Below w2.heap.size w2 (w2.alloc (.cells (encL (pC, false, zSu, .slice none 0 0, [])).toArray 34))) := Lib.hid ((Below.refl _ _).alloc (Nat.le_refl _) _)
  have HV0 := Lib.hid (BadAt.one (LF.one (p := (pC, false, zSu, .slice none 0 0, [])) (Us.nilv w2)) (by decide) bad0_no)
  generalize w2.alloc (.cells (encL (pC, false, zSu, .slice none 0 0, [])).toArray 34) = w10 at *
  replace HR := Lib.hid (HR.out.keep HA.out)
  replace HB2 := Lib.hid (HB2.out.trans (HA.out.mono HB2.out.size))
  clear HA
  generalize w2.heap.size = g10 at *
  refine lp_pure (by kernel_rfl) (build_val 34 _ rfl (encL (pAB, false, zSu, .slice none 0 0, [])).toArray [(0, .string pAB)] (by kernel_rfl) (built_b0 pAB)) ?_
  try simp only [Act.put, List.setIfInBounds_toArray, List.set_cons_zero, List.set_cons_succ]
  refine lp_step (by kernel_rfl) (fun K hK => wp_one_ln 24 34 elLn (.tmp 33) rfl (pAB, false, zSu, .slice none 0 0, []) rfl (hK _ _ ?_))
  try simp only [Act.put, List.setIfInBounds_toArray, List.set_cons_zero, List.set_cons_succ]
  have HA : Hid (Below w10.heap.size w10 (w10.alloc (.cells (encL (pAB, false, zSu, .slice none 0 0, [])).toArray 34))) := Lib.hid ((Below.refl _ _).alloc (Nat.le_refl _) _)
  have HV1 := Lib.hid (BadAt.one (LF.one (p := (pAB, false, zSu, .slice none 0 0, [])) (Us.nilv w10)) (by decide) bad1_no)
  generalize w10.alloc (.cells (encL (pAB, false, zSu, .slice none 0 0, [])).toArray 34) = w11 at *
  replace HR := Lib.hid (HR.out.keep HA.out)
  replace HV0 := Lib.hid (HV0.out.keep HA.out)
  replace HB2 := Lib.hid (HB2.out.trans (HA.out.mono HB2.out.size))
  clear HA
  generalize w10.heap.size = g11 at *
  refine lp_pure (by kernel_rfl) (build_val 34 _ rfl (encL (pB, false, zSu, .slice none 0 0, [])).toArray [(0, .string pB)] (by kernel_rfl) (built_b0 pB)) ?_
  try simp only [Act.put, List.setIfInBounds_toArray, List.set_cons_zero, List.set_cons_succ]
  refine lp_pure (by kernel_rfl) (build_val 34 _ rfl (encL (pA, false, zSu, .slice none 0 0, [])).toArray [(0, .string pA)] (by kernel_rfl) (built_b0 pA)) ?_
  try simp only [Act.put, List.setIfInBounds_toArray, List.set_cons_zero, List.set_cons_succ]
  refine lp_step (by kernel_rfl) (fun K hK => wp_two_ln (.tmp 35) (.tmp 36) rfl (pB, false, zSu, .slice none 0 0, []) (pA, false, zSu, .slice none 0 0, []) rfl rfl (hK _ _ ?_))
  try simp only [Act.put, List.setIfInBounds_toArray, List.set_cons_zero, List.set_cons_succ]
  have HA : Hid (Below w11.heap.size w11 (w11.alloc (.cells (rowL [(pB, false, zSu, .slice none 0 0, []), (pA, false, zSu, .slice none 0 0, [])]).toArray 34))) := Lib.hid ((Below.refl _ _).alloc (Nat.le_refl _) _)
  have HV2 := Lib.hid (BadAt.two (LF.two (p := (pB, false, zSu, .slice none 0 0, [])) (r := (pA, false, zSu, .slice none 0 0, [])) (Us.nilv w11) (Us.nilv w11)) (by decide) (by decide) bad2_no)
  generalize w11.alloc (.cells (rowL [(pB, false, zSu, .slice none 0 0, []), (pA, false, zSu, .slice none 0 0, [])]).toArray 34) = w12 at *
  replace HR := Lib.hid (HR.out.keep HA.out)
  replace HV0 := Lib.hid (HV0.out.keep HA.out)
  replace HV1 := Lib.hid (HV1.out.keep HA.out)
  replace HB2 := Lib.hid (HB2.out.trans (HA.out.mono HB2.out.size))
  clear HA
  generalize w11.heap.size = g12 at *
  refine lp_pure (by kernel_rfl) (build_val 34 _ rfl (encL (pW, true, zSu, .slice none 0 0, [])).toArray [(0, .string pW), (1, .bool true)] (by kernel_rfl) (built_dir pW)) ?_
  try simp only [Act.put, List.setIfInBounds_toArray, List.set_cons_zero, List.set_cons_succ]
  refine lp_step (by kernel_rfl) (fun K hK => wp_one_ln 24 34 elLn (.tmp 38) rfl (pW, true, zSu, .slice none 0 0, []) rfl (hK _ _ ?_))
  try simp only [Act.put, List.setIfInBounds_toArray, List.set_cons_zero, List.set_cons_succ]
  have HA : Hid (Below w12.heap.size w12 (w12.alloc (.cells (encL (pW, true, zSu, .slice none 0 0, [])).toArray 34))) := Lib.hid ((Below.refl _ _).alloc (Nat.le_refl _) _)
  have HV3 := Lib.hid (BadAt.one (LF.one (p := (pW, true, zSu, .slice none 0 0, [])) (Us.nilv w12)) (by decide) bad3_no)
  generalize w12.alloc (.cells (encL (pW, true, zSu, .slice none 0 0, [])).toArray 34) = w13 at *
  replace HR := Lib.hid (HR.out.keep HA.out)
  replace HV0 := Lib.hid (HV0.out.keep HA.out)
  replace HV1 := Lib.hid (HV1.out.keep HA.out)
  replace HV2 := Lib.hid (HV2.out.keep HA.out)
  replace HB2 := Lib.hid (HB2.out.trans (HA.out.mono HB2.out.size))
  clear HA
  generalize w12.heap.size = g13 at *
  refine lp_pure (by kernel_rfl) (build_su 31 #[] rfl zSu [] (by simp) built_zero) ?_
  try simp only [Act.put, List.setIfInBounds_toArray, List.set_cons_zero, List.set_cons_succ]
  refine lp_step (by kernel_rfl) (fun K hK => wp_one_su 32 31 elSum (.tmp 40) rfl zSu rfl (hK _ _ ?_))
  try simp only [Act.put, List.setIfInBounds_toArray, List.set_cons_zero, List.set_cons_succ]
  have HA : Hid (Below w13.heap.size w13 (w13.alloc (.cells (encU zSu).toArray 31))) := Lib.hid ((Below.refl _ _).alloc (Nat.le_refl _) _)
  have HN4 := Lib.hid (show Us (w13.alloc (.cells (encU zSu).toArray 31)) (.slice (some ⟨w13.heap.size, 0, none⟩) 1 1) [zSu] from Us.of_has (L := [zSu]) (by rw [rowU_one]; exact Has.made' _ _ _ _ rfl))
  generalize w13.alloc (.cells (encU zSu).toArray 31) = w14 at *
  replace HR := Lib.hid (HR.out.keep HA.out)
  replace HV0 := Lib.hid (HV0.out.keep HA.out)
  replace HV1 := Lib.hid (HV1.out.keep HA.out)
  replace HV2 := Lib.hid (HV2.out.keep HA.out)
  replace HV3 := Lib.hid (HV3.out.keep HA.out)
  replace HB2 := Lib.hid (HB2.out.trans (HA.out.mono HB2.out.size))
  clear HA
  generalize w13.heap.size = g14 at *
  refine lp_pure (by kernel_rfl) (build_val 34 _ rfl (encL (pA, true, zSu, .slice (some ⟨g14, 0, none⟩) 1 1, [zSu])).toArray [(0, .string pA), (1, .bool true), (3, .slice (some ⟨g14, 0, none⟩) 1 1)] (by kernel_rfl) (built_b4 pA (some ⟨g14, 0, none⟩) 1 1 [zSu])) ?_
  try simp only [Act.put, List.setIfInBounds_toArray, List.set_cons_zero, List.set_cons_succ]
  refine lp_step (by kernel_rfl) (fun K hK => wp_one_ln 24 34 elLn (.tmp 42) rfl (pA, true, zSu, .slice (some ⟨g14, 0, none⟩) 1 1, [zSu]) rfl (hK _ _ ?_))
  try simp only [Act.put, List.setIfInBounds_toArray, List.set_cons_zero, List.set_cons_succ]
  have HA : Hid (Below w14.heap.size w14 (w14.alloc (.cells (encL (pA, true, zSu, .slice (some ⟨g14, 0, none⟩) 1 1, [zSu])).toArray 34))) := Lib.hid ((Below.refl _ _).alloc (Nat.le_refl _) _)
  have HV4 := Lib.hid (BadAt.one (LF.one (p := (pA, true, zSu, .slice (some ⟨g14, 0, none⟩) 1 1, [zSu])) HN4.out) (And.intro (by decide : pA.size ≤ 100) (by decide : 1 ≤ 2049)) bad4_no)
  generalize w14.alloc (.cells (encL (pA, true, zSu, .slice (some ⟨g14, 0, none⟩) 1 1, [zSu])).toArray 34) = w15 at *
  replace HR := Lib.hid (HR.out.keep HA.out)
  replace HV0 := Lib.hid (HV0.out.keep HA.out)
  replace HV1 := Lib.hid (HV1.out.keep HA.out)
  replace HV2 := Lib.hid (HV2.out.keep HA.out)
  replace HV3 := Lib.hid (HV3.out.keep HA.out)
  replace HN4 := Lib.hid (HN4.out.keep HA.out)
  replace HB2 := Lib.hid (HB2.out.trans (HA.out.mono HB2.out.size))
  clear HA
  generalize w14.heap.size = g15 at *
  refine lp_pure (by kernel_rfl) (build_su 31 #[(0, .const (.int .u8 1))] rfl oneS [(0, .int .u8 1)] (by kernel_rfl) built_s1) ?_
  try simp only [Act.put, List.setIfInBounds_toArray, List.set_cons_zero, List.set_cons_succ]
  refine lp_pure (by kernel_rfl) (build_val 34 _ rfl (encL (pA, true, oneS, .slice none 0 0, [])).toArray [(0, .string pA), (1, .bool true), (2, .agg (encU oneS).toArray)] (by kernel_rfl) (built_b5 pA)) ?_
  try simp only [Act.put, List.setIfInBounds_toArray, List.set_cons_zero, List.set_cons_succ]
  refine lp_step (by kernel_rfl) (fun K hK => wp_one_ln 24 34 elLn (.tmp 45) rfl (pA, true, oneS, .slice none 0 0, []) rfl (hK _ _ ?_))
  try simp only [Act.put, List.setIfInBounds_toArray, List.set_cons_zero, List.set_cons_succ]
  have HA : Hid (Below w15.heap.size w15 (w15.alloc (.cells (encL (pA, true, oneS, .slice none 0 0, [])).toArray 34))) := Lib.hid ((Below.refl _ _).alloc (Nat.le_refl _) _)
  have HV5 := Lib.hid (BadAt.one (LF.one (p := (pA, true, oneS, .slice none 0 0, [])) (Us.nilv w15)) (by decide) bad5_no)
  generalize w15.alloc (.cells (encL (pA, true, oneS, .slice none 0 0, [])).toArray 34) = w16 at *
  replace HR := Lib.hid (HR.out.keep HA.out)
  replace HV0 := Lib.hid (HV0.out.keep HA.out)
  replace HV1 := Lib.hid (HV1.out.keep HA.out)
  replace HV2 := Lib.hid (HV2.out.keep HA.out)
  replace HV3 := Lib.hid (HV3.out.keep HA.out)
  replace HN4 := Lib.hid (HN4.out.keep HA.out)
  replace HV4 := Lib.hid (HV4.out.keep HA.out)
  replace HB2 := Lib.hid (HB2.out.trans (HA.out.mono HB2.out.size))
  clear HA
  generalize w15.heap.size = g16 at *
  refine lp_pure (by kernel_rfl) (build_val 34 _ rfl (encL (pA, false, zSu, .slice none 0 0, [])).toArray [(0, .string pA)] (by kernel_rfl) (built_b0 pA)) ?_
  try simp only [Act.put, List.setIfInBounds_toArray, List.set_cons_zero, List.set_cons_succ]
  refine lp_pure (by kernel_rfl) (build_val 34 _ rfl (encL (pAB, false, zSu, .slice none 0 0, [])).toArray [(0, .string pAB)] (by kernel_rfl) (built_b0 pAB)) ?_
  try simp only [Act.put, List.setIfInBounds_toArray, List.set_cons_zero, List.set_cons_succ]
  refine lp_step (by kernel_rfl) (fun K hK => wp_two_ln (.tmp 47) (.tmp 48) rfl (pA, false, zSu, .slice none 0 0, []) (pAB, false, zSu, .slice none 0 0, []) rfl rfl (hK _ _ ?_))
  try simp only [Act.put, List.setIfInBounds_toArray, List.set_cons_zero, List.set_cons_succ]
  have HA : Hid (Below w16.heap.size w16 (w16.alloc (.cells (rowL [(pA, false, zSu, .slice none 0 0, []), (pAB, false, zSu, .slice none 0 0, [])]).toArray 34))) := Lib.hid ((Below.refl _ _).alloc (Nat.le_refl _) _)
  have HV6 := Lib.hid (BadAt.two (LF.two (p := (pA, false, zSu, .slice none 0 0, [])) (r := (pAB, false, zSu, .slice none 0 0, [])) (Us.nilv w16) (Us.nilv w16)) (by decide) (by decide) bad6_no)
  generalize w16.alloc (.cells (rowL [(pA, false, zSu, .slice none 0 0, []), (pAB, false, zSu, .slice none 0 0, [])]).toArray 34) = w17 at *
  replace HR := Lib.hid (HR.out.keep HA.out)
  replace HV0 := Lib.hid (HV0.out.keep HA.out)
  replace HV1 := Lib.hid (HV1.out.keep HA.out)
  replace HV2 := Lib.hid (HV2.out.keep HA.out)
  replace HV3 := Lib.hid (HV3.out.keep HA.out)
  replace HN4 := Lib.hid (HN4.out.keep HA.out)
  replace HV4 := Lib.hid (HV4.out.keep HA.out)
  replace HV5 := Lib.hid (HV5.out.keep HA.out)
  replace HB2 := Lib.hid (HB2.out.trans (HA.out.mono HB2.out.size))
  clear HA
  generalize w16.heap.size = g17 at *
  refine lp_step (by kernel_rfl) (fun K hK => wp_make_su (.const (.int .i64 2049)) (.const (.int .i64 2049)) 2049 rfl rfl rfl (by decide) (hK _ _ ?_))
  try simp only [Act.put, List.setIfInBounds_toArray, List.set_cons_zero, List.set_cons_succ]
  have HA : Hid (Below w17.heap.size w17 (w17.alloc (.cells (rowU (List.replicate 2049 zSu)).toArray 31))) := Lib.hid ((Below.refl _ _).alloc (Nat.le_refl _) _)
  have HN7 := Lib.hid (show Us (w17.alloc (.cells (rowU (List.replicate 2049 zSu)).toArray 31)) (.slice (some ⟨w17.heap.size, 0, none⟩) 2049 2049) z2049 from (by have h := Us.of_has (L := z2049) (Has.made' w17 31 _ _ rfl); rw [show z2049.length = 2049 from List.length_replicate ..] at h; exact h))
  generalize w17.alloc (.cells (rowU (List.replicate 2049 zSu)).toArray 31) = w18 at *
  replace HR := Lib.hid (HR.out.keep HA.out)
  replace HV0 := Lib.hid (HV0.out.keep HA.out)
  replace HV1 := Lib.hid (HV1.out.keep HA.out)
  replace HV2 := Lib.hid (HV2.out.keep HA.out)
  replace HV3 := Lib.hid (HV3.out.keep HA.out)
  replace HN4 := Lib.hid (HN4.out.keep HA.out)
  replace HV4 := Lib.hid (HV4.out.keep HA.out)
  replace HV5 := Lib.hid (HV5.out.keep HA.out)
  replace HV6 := Lib.hid (HV6.out.keep HA.out)
  replace HB2 := Lib.hid (HB2.out.trans (HA.out.mono HB2.out.size))
  clear HA
  generalize w17.heap.size = g18 at *
  refine lp_pure (by kernel_rfl) (build_val 34 _ rfl (encL (pA, false, zSu, .slice (some ⟨g18, 0, none⟩) 2049 2049, z2049)).toArray [(0, .string pA), (3, .slice (some ⟨g18, 0, none⟩) 2049 2049)] (by kernel_rfl) (built_b7 pA (some ⟨g18, 0, none⟩) 2049 2049 z2049)) ?_
  try simp only [Act.put, List.setIfInBounds_toArray, List.set_cons_zero, List.set_cons_succ]
  refine lp_step (by kernel_rfl) (fun K hK => wp_one_ln 24 34 elLn (.tmp 51) rfl (pA, false, zSu, .slice (some ⟨g18, 0, none⟩) 2049 2049, z2049) rfl (hK _ _ ?_))
  try simp only [Act.put, List.setIfInBounds_toArray, List.set_cons_zero, List.set_cons_succ]
  have HA : Hid (Below w18.heap.size w18 (w18.alloc (.cells (encL (pA, false, zSu, .slice (some ⟨g18, 0, none⟩) 2049 2049, z2049)).toArray 34))) := Lib.hid ((Below.refl _ _).alloc (Nat.le_refl _) _)
  have HV7 := Lib.hid (BadAt.one (LF.one (p := (pA, false, zSu, .slice (some ⟨g18, 0, none⟩) 2049 2049, z2049)) HN7.out) (And.intro (by decide : pA.size ≤ 100) (Nat.le_of_eq (List.length_replicate ..))) bad7_no)
  generalize w18.alloc (.cells (encL (pA, false, zSu, .slice (some ⟨g18, 0, none⟩) 2049 2049, z2049)).toArray 34) = w19 at *
  replace HR := Lib.hid (HR.out.keep HA.out)
  replace HV0 := Lib.hid (HV0.out.keep HA.out)
  replace HV1 := Lib.hid (HV1.out.keep HA.out)
  replace HV2 := Lib.hid (HV2.out.keep HA.out)
  replace HV3 := Lib.hid (HV3.out.keep HA.out)
  replace HN4 := Lib.hid (HN4.out.keep HA.out)
  replace HV4 := Lib.hid (HV4.out.keep HA.out)
  replace HV5 := Lib.hid (HV5.out.keep HA.out)
  replace HV6 := Lib.hid (HV6.out.keep HA.out)
  replace HN7 := Lib.hid (HN7.out.keep HA.out)
  replace HB2 := Lib.hid (HB2.out.trans (HA.out.mono HB2.out.size))
  clear HA
  generalize w18.heap.size = g19 at *
  refine lp_step (by kernel_rfl) (fun K hK => wp_lit8r _ rfl #[.slice (some ⟨g10, 0, none⟩) 1 1, .slice (some ⟨g11, 0, none⟩) 1 1, .slice (some ⟨g12, 0, none⟩) 2 2, .slice (some ⟨g13, 0, none⟩) 1 1, .slice (some ⟨g15, 0, none⟩) 1 1, .slice (some ⟨g16, 0, none⟩) 1 1, .slice (some ⟨g17, 0, none⟩) 2 2, .slice (some ⟨g19, 0, none⟩) 1 1] (by kernel_rfl) (hK _ _ ?_))
  try simp only [Act.put, List.setIfInBounds_toArray, List.set_cons_zero, List.set_cons_succ]
  have HA : Hid (Below w19.heap.size w19 (w19.alloc (.cells #[.slice (some ⟨g10, 0, none⟩) 1 1, .slice (some ⟨g11, 0, none⟩) 1 1, .slice (some ⟨g12, 0, none⟩) 2 2, .slice (some ⟨g13, 0, none⟩) 1 1, .slice (some ⟨g15, 0, none⟩) 1 1, .slice (some ⟨g16, 0, none⟩) 1 1, .slice (some ⟨g17, 0, none⟩) 2 2, .slice (some ⟨g19, 0, none⟩) 1 1] 24))) := Lib.hid ((Below.refl _ _).alloc (Nat.le_refl _) _)
  have HBX := Lib.hid (show Has (w19.alloc (.cells #[.slice (some ⟨g10, 0, none⟩) 1 1, .slice (some ⟨g11, 0, none⟩) 1 1, .slice (some ⟨g12, 0, none⟩) 2 2, .slice (some ⟨g13, 0, none⟩) 1 1, .slice (some ⟨g15, 0, none⟩) 1 1, .slice (some ⟨g16, 0, none⟩) 1 1, .slice (some ⟨g17, 0, none⟩) 2 2, .slice (some ⟨g19, 0, none⟩) 1 1] 24)) w19.heap.size 24 (#[.slice (some ⟨g10, 0, none⟩) 1 1, .slice (some ⟨g11, 0, none⟩) 1 1, .slice (some ⟨g12, 0, none⟩) 2 2, .slice (some ⟨g13, 0, none⟩) 1 1, .slice (some ⟨g15, 0, none⟩) 1 1, .slice (some ⟨g16, 0, none⟩) 1 1, .slice (some ⟨g17, 0, none⟩) 2 2, .slice (some ⟨g19, 0, none⟩) 1 1] : Array Value).toList from Has.made w19 _ _)
  generalize w19.alloc (.cells #[.slice (some ⟨g10, 0, none⟩) 1 1, .slice (some ⟨g11, 0, none⟩) 1 1, .slice (some ⟨g12, 0, none⟩) 2 2, .slice (some ⟨g13, 0, none⟩) 1 1, .slice (some ⟨g15, 0, none⟩) 1 1, .slice (some ⟨g16, 0, none⟩) 1 1, .slice (some ⟨g17, 0, none⟩) 2 2, .slice (some ⟨g19, 0, none⟩) 1 1] 24) = w20 at *
  replace HR := Lib.hid (HR.out.keep HA.out)
  replace HV0 := Lib.hid (HV0.out.keep HA.out)
  replace HV1 := Lib.hid (HV1.out.keep HA.out)
  replace HV2 := Lib.hid (HV2.out.keep HA.out)
  replace HV3 := Lib.hid (HV3.out.keep HA.out)
  replace HN4 := Lib.hid (HN4.out.keep HA.out)
  replace HV4 := Lib.hid (HV4.out.keep HA.out)
  replace HV5 := Lib.hid (HV5.out.keep HA.out)
  replace HV6 := Lib.hid (HV6.out.keep HA.out)
  replace HN7 := Lib.hid (HN7.out.keep HA.out)
  replace HV7 := Lib.hid (HV7.out.keep HA.out)
  replace HB2 := Lib.hid (HB2.out.trans (HA.out.mono HB2.out.size))
  clear HA
  generalize w19.heap.size = g20 at *
  refine lp_pure (v := ?_) (by kernel_rfl) ?_ ?_
  rotate_left
  · go_simp; try with_reducible rfl
  try simp only [Act.put, List.setIfInBounds_toArray, List.set_cons_zero, List.set_cons_succ]
  refine wpList_nil ?_
  have HBAD : Hid (∀ j : Nat, j < 8 → ∃ v, (#[.slice (some ⟨g10, 0, none⟩) 1 1, .slice (some ⟨g11, 0, none⟩) 1 1, .slice (some ⟨g12, 0, none⟩) 2 2, .slice (some ⟨g13, 0, none⟩) 1 1, .slice (some ⟨g15, 0, none⟩) 1 1, .slice (some ⟨g16, 0, none⟩) 1 1, .slice (some ⟨g17, 0, none⟩) 2 2, .slice (some ⟨g19, 0, none⟩) 1 1] : Array Value).toList[j]? = some v ∧ BadAt w20 v) := Lib.hid (fun j hj => by
    match j, hj with
    | 0, _ => exact ⟨_, rfl, HV0.out⟩
    | 1, _ => exact ⟨_, rfl, HV1.out⟩
    | 2, _ => exact ⟨_, rfl, HV2.out⟩
    | 3, _ => exact ⟨_, rfl, HV3.out⟩
    | 4, _ => exact ⟨_, rfl, HV4.out⟩
    | 5, _ => exact ⟨_, rfl, HV5.out⟩
    | 6, _ => exact ⟨_, rfl, HV6.out⟩
    | 7, _ => exact ⟨_, rfl, HV7.out⟩)
  generalize (#[.slice (some ⟨g10, 0, none⟩) 1 1, .slice (some ⟨g11, 0, none⟩) 1 1, .slice (some ⟨g12, 0, none⟩) 2 2, .slice (some ⟨g13, 0, none⟩) 1 1, .slice (some ⟨g15, 0, none⟩) 1 1, .slice (some ⟨g16, 0, none⟩) 1 1, .slice (some ⟨g17, 0, none⟩) 2 2, .slice (some ⟨g19, 0, none⟩) 1 1] : Array Value).toList = CS at *
  clear HV0 HV1 HV2 HV3 HV4 HV5 HV6 HV7 HN4 HN7 HM2049
  go_upto_region 6 with fail
  go_loopw [3] (fun vi wr => ∃ j : Nat, j ≤ 8 ∧ vi = .int .i64 j ∧ Below w20.heap.size w20 wr) (fun vi _ => 8 - (intOf vi).toNat)
  case atStart => exact ⟨0, by omega, rfl, Below.refl _ _⟩
  case round =>
    rename_i wr
    obtain ⟨j, hj, rfl, hB⟩ := hrel
    have HBR := Lib.hid hB
    clear hB
    by_cases hlt : j < 8
    · obtain ⟨v, hv, hbad⟩ := HBAD.out j hlt
      have HVJ := Lib.hid hv
      have hb9 := hbad.keep HBR.out
      obtain ⟨L, ⟨⟨q, c, rfl, hc, hq, hs⟩, hlb⟩, h2, hsz, hno⟩ := hb9
      have HSL := Lib.hid hs
      have HLB := Lib.hid hlb
      have hs1 : L.length < 9223372036854775808 := by omega
      have hs2 : ∀ l ∈ L, l.1.size < 9223372036854775808 ∧ l.2.2.2.2.length < 9223372036854775808 := fun l hl => by have := hsz l hl; omega
      have HBW := Lib.hid (HB2.out.trans (HBR.out.mono HB2.out.size))
      have HBK := Lib.hid (bake12_any L q c [] none 0 wr hs1 hs2 hs hlb (by decide) (Sees.nil _ _ _) (fun p h => by cases h) (fun p h => by cases h) (HL.out.keep HBW.out HSZ.out))
      rw [bake_bad hno] at HBK
      have HGD : Hid (∀ wx, Below wr.heap.size wr wx → Calls Tryz.prog 12 #[.slice q L.length c] wx fun e w' => e = .returned (.bool (goodK (L.map keyL))) ∧ Below wx.heap.size wx w') := Lib.hid fun wx h => goodK_any L q c wx hs1 hs2 ((HSL.out.keep h).more h.size) (HLB.out.keep h)
      have HPT : Hid (∀ wx, Below wr.heap.size wr wx → Calls Tryz.prog 13 #[.slice q L.length c] wx (GiveO wx (putR (L.map keyL)))) := Lib.hid fun wx h => put12_any L q c wx hs1 hs2 ((HSL.out.keep h).more h.size) (HLB.out.keep h)
      rw [hno] at HGD
      rw [put_bad hno] at HPT
      have c0 : wr.cell? ⟨g20, j, none⟩ = some (.slice q L.length c) := (HBX.out.keepB HBR.out).cellv hv
      clear hc hq hs hlb h2 hsz hno hs1 hs2 hbad hv
      generalize L.length = nL at *
      have hjj : (j : Int) < 8 := by omega
      have kll : j < 1000000 := by omega
      go_upto_region 8 with fail
      refine wp_region_lit ?_
      try simp only [Act.put, List.setIfInBounds_toArray, List.set_cons_zero, List.set_cons_succ]
      refine lp_pure (v := ?_) (by kernel_rfl) ?_ ?_
      rotate_left
      · go_simp; try with_reducible rfl
      try simp only [Act.put, List.setIfInBounds_toArray, List.set_cons_zero, List.set_cons_succ]
      refine lp_pure (v := ?_) (by kernel_rfl) ?_ ?_
      rotate_left
      · go_simp; try with_reducible rfl
      try simp only [Act.put, List.setIfInBounds_toArray, List.set_cons_zero, List.set_cons_succ]
      refine lp_pure (v := ?_) (by kernel_rfl) ?_ ?_
      rotate_left
      · go_simp; try with_reducible rfl
      try simp only [Act.put, List.setIfInBounds_toArray, List.set_cons_zero, List.set_cons_succ]
      refine lp_pure (by kernel_rfl) (run_load1 24 (.tmp 63) rfl ⟨g20, j, none⟩ rfl Tryz.underlying24 rfl c0) ?_
      try simp only [Act.put, List.setIfInBounds_toArray, List.set_cons_zero, List.set_cons_succ]
      refine lp_step (by kernel_rfl) (fun K hK => ?_)
      go_wp2_with fail
      refine Calls.mono (HBK.out) ?_
      rintro e w5 ⟨⟨v5, T, rfl, ⟨q5, c5, rfl, _, _, _⟩, _, _⟩, hb⟩
      have HR5 := Lib.hid hb
      clear hb c0 HBK
      refine hK _ _ ?_
      clear hK
      try simp only [Act.put, List.setIfInBounds_toArray, List.set_cons_zero, List.set_cons_succ]
      refine lp_pure (v := ?_) (by kernel_rfl) ?_ ?_
      rotate_left
      · go_simp; try with_reducible rfl
      try simp only [Act.put, List.setIfInBounds_toArray, List.set_cons_zero, List.set_cons_succ]
      refine lp_pure (v := ?_) (by kernel_rfl) ?_ ?_
      rotate_left
      · go_simp; try with_reducible rfl
      try simp only [Act.put, List.setIfInBounds_toArray, List.set_cons_zero, List.set_cons_succ]
      refine lp_pure (v := ?_) (by kernel_rfl) ?_ ?_
      rotate_left
      · go_simp; try with_reducible rfl
      try simp only [Act.put, List.setIfInBounds_toArray, List.set_cons_zero, List.set_cons_succ]
      refine wpList_alloc rfl _ rfl #[.slice none 0 0] (zTr_run w5) ?_
      try simp only [Act.put, List.setIfInBounds_toArray, List.set_cons_zero, List.set_cons_succ]
      have HZ6 := Lib.hid (Has.made w5 28 #[.slice none 0 0])
      have HA6 := Lib.hid ((Below.refl w5.heap.size w5).alloc (Nat.le_refl _) (.cells #[.slice none 0 0] 28))
      refine wpList_store_row rfl 28 (.tmp 4) (.tmp 66) rfl w5.heap.size #[.slice q5 T.length c5] rfl rfl 28 [Value.slice none 0 0].toArray HZ6.out (by exact szTr) rfl (by kernel_rfl) ?_
      simp only [Act.put]
      have hbz : Below w5.heap.size w5 ((w5.alloc (.cells #[.slice none 0 0] 28)).setRow w5.heap.size #[.slice q5 T.length c5]) := below_row HA6.out (Nat.le_refl _) _
      replace HR5 := Lib.hid (HR5.out.trans (hbz.mono HR5.out.size))
      generalize (w5.alloc (.cells #[.slice none 0 0] 28)).setRow w5.heap.size #[.slice q5 T.length c5] = w6 at *
      clear hbz HZ6 HA6
      generalize w5.heap.size = bw6 at *
      try simp only [Act.put, List.setIfInBounds_toArray, List.set_cons_zero, List.set_cons_succ]
      refine lp_pure (v := ?_) (by kernel_rfl) ?_ ?_
      rotate_left
      · go_simp; try with_reducible rfl
      try simp only [Act.put, List.setIfInBounds_toArray, List.set_cons_zero, List.set_cons_succ]
      refine wpList_nil ?_
      have HBR6 := Lib.hid (HBR.out.trans (HR5.out.mono HBR.out.size))
      have c1 : w6.cell? ⟨g20, j, none⟩ = some (.slice q nL c) := (HBX.out.keepB HBR6.out).cellv HVJ.out
      go_upto_region 9 with fail
      refine wp_region_lit ?_
      try simp only [Act.put, List.setIfInBounds_toArray, List.set_cons_zero, List.set_cons_succ]
      refine lp_pure (v := ?_) (by kernel_rfl) ?_ ?_
      rotate_left
      · go_simp; try with_reducible rfl
      try simp only [Act.put, List.setIfInBounds_toArray, List.set_cons_zero, List.set_cons_succ]
      refine lp_pure (v := ?_) (by kernel_rfl) ?_ ?_
      rotate_left
      · go_simp; try with_reducible rfl
      try simp only [Act.put, List.setIfInBounds_toArray, List.set_cons_zero, List.set_cons_succ]
      refine lp_pure (v := ?_) (by kernel_rfl) ?_ ?_
      rotate_left
      · go_simp; try with_reducible rfl
      try simp only [Act.put, List.setIfInBounds_toArray, List.set_cons_zero, List.set_cons_succ]
      refine lp_pure (by kernel_rfl) (run_load1 24 (.tmp 70) rfl ⟨g20, j, none⟩ rfl Tryz.underlying24 rfl c1) ?_
      try simp only [Act.put, List.setIfInBounds_toArray, List.set_cons_zero, List.set_cons_succ]
      refine lp_step (by kernel_rfl) (fun K hK => ?_)
      go_wp2_with fail
      refine Calls.mono (HGD.out w6 HR5.out) ?_
      rintro e w7 ⟨rfl, hb⟩
      have HR7 := Lib.hid (HR5.out.trans (hb.mono HR5.out.size))
      have HBR7 := Lib.hid (HBR6.out.trans (hb.mono HBR6.out.size))
      have c2 : w7.cell? ⟨g20, j, none⟩ = some (.slice q nL c) := (HBX.out.keepB HBR7.out).cellv HVJ.out
      clear hb c1 HGD
      refine hK _ _ ?_
      clear hK
      try simp only [Act.put, List.setIfInBounds_toArray, List.set_cons_zero, List.set_cons_succ]
      refine lp_pure (v := ?_) (by kernel_rfl) ?_ ?_
      rotate_left
      · go_simp; try with_reducible rfl
      try simp only [Act.put, List.setIfInBounds_toArray, List.set_cons_zero, List.set_cons_succ]
      refine lp_pure (v := ?_) (by kernel_rfl) ?_ ?_
      rotate_left
      · go_simp; try with_reducible rfl
      try simp only [Act.put, List.setIfInBounds_toArray, List.set_cons_zero, List.set_cons_succ]
      refine lp_pure (v := ?_) (by kernel_rfl) ?_ ?_
      rotate_left
      · go_simp; try with_reducible rfl
      try simp only [Act.put, List.setIfInBounds_toArray, List.set_cons_zero, List.set_cons_succ]
      refine lp_pure (v := ?_) (by kernel_rfl) ?_ ?_
      rotate_left
      · go_simp; try with_reducible rfl
      try simp only [Act.put, List.setIfInBounds_toArray, List.set_cons_zero, List.set_cons_succ]
      refine lp_pure (by kernel_rfl) (run_load1 24 (.tmp 76) rfl ⟨g20, j, none⟩ rfl Tryz.underlying24 rfl c2) ?_
      try simp only [Act.put, List.setIfInBounds_toArray, List.set_cons_zero, List.set_cons_succ]
      refine lp_step (by kernel_rfl) (fun K hK => ?_)
      go_wp2_with fail
      refine Calls.mono (HPT.out w7 HR7.out) ?_
      rintro e w8 ⟨v8, rfl, ho, hb⟩
      have HBR8 := Lib.hid (HBR7.out.trans (hb.mono HBR7.out.size))
      obtain ⟨q8, c8, hv8, _, _, _⟩ := ho.bs
      rw [show ([] : List (BitVec 8)).length = 0 from rfl] at hv8
      subst hv8
      clear hb ho c2 HPT
      refine hK _ _ ?_
      clear hK
      try simp only [Act.put, List.setIfInBounds_toArray, List.set_cons_zero, List.set_cons_succ]
      refine lp_pure (v := ?_) (by kernel_rfl) ?_ ?_
      rotate_left
      · go_simp; try with_reducible rfl
      try simp only [Act.put, List.setIfInBounds_toArray, List.set_cons_zero, List.set_cons_succ]
      refine lp_pure (v := ?_) (by kernel_rfl) ?_ ?_
      rotate_left
      · go_simp; try with_reducible rfl
      try simp only [Act.put, List.setIfInBounds_toArray, List.set_cons_zero, List.set_cons_succ]
      refine lp_pure (v := ?_) (by kernel_rfl) ?_ ?_
      rotate_left
      · go_simp; try with_reducible rfl
      try simp only [Act.put, List.setIfInBounds_toArray, List.set_cons_zero, List.set_cons_succ]
      refine lp_pure (v := ?_) (by kernel_rfl) ?_ ?_
      rotate_left
      · go_simp; try with_reducible rfl
      try simp only [Act.put, List.setIfInBounds_toArray, List.set_cons_zero, List.set_cons_succ]
      refine lp_pure (v := ?_) (by kernel_rfl) ?_ ?_
      rotate_left
      · go_simp; try with_reducible rfl
      try simp only [Act.put, List.setIfInBounds_toArray, List.set_cons_zero, List.set_cons_succ]
      refine lp_pure (v := ?_) (by kernel_rfl) ?_ ?_
      rotate_left
      · go_simp; try with_reducible rfl
      try simp only [Act.put, List.setIfInBounds_toArray, List.set_cons_zero, List.set_cons_succ]
      refine lp_pure (v := ?_) (by kernel_rfl) ?_ ?_
      rotate_left
      · go_simp; try with_reducible rfl
      try simp only [Act.put, List.setIfInBounds_toArray, List.set_cons_zero, List.set_cons_succ]
      refine wpList_nil ?_
      go_wp2_with fail
      go_roundw
      case rel => exact ⟨j + 1, by omega, by go_num, HBR8.out⟩
      case measure => simp [intOf]; omega
    · have hj8 : j = 8 := by omega
      subst hj8
      have HBW := Lib.hid (HB2.out.trans (HBR.out.mono HB2.out.size))
      have HRW := Lib.hid (HR.out.keep HBR.out)
      have HLW := Lib.hid (HL.out.keep HBW.out HSZ.out)
      have HSW := Lib.hid HBW.out.size
      clear HBAD HBX HB2 HR HBR hj hlt
      clear HL
      have hsl : ∀ wx, Below wr.heap.size wr wx → Sees wx wx.heap.size q2 (rowL (smL n1 n2)) ∧ Lnb wx (smL n1 n2) := fun wx h => by
        obtain ⟨⟨q, c, hv, _, _, hs⟩, hb⟩ := HRW.out.keep h
        injection hv with e1 _ _
        subst e1
        exact ⟨hs, hb⟩
      have HLX : Hid (∀ wx, Below wr.heap.size wr wx → Laid wx) := Lib.hid fun wx h => HLW.out.keep h (by have := HSW.out; have := HSZ.out; omega)
      have HPT : Hid (∀ wx, Below wr.heap.size wr wx → Calls Tryz.prog 13 #[.slice q2 2 c2] wx (GiveO wx (putR smR))) := Lib.hid fun wx h => put12_any (smL n1 n2) q2 c2 wx (smL_len _ _) (smL_size _ _) (hsl wx h).1 (hsl wx h).2
      have HBK : Hid (∀ wx, Below wr.heap.size wr wx → Calls Tryz.prog 11 #[.slice q2 2 c2, .slice none 0 0] wx fun e w' => BakedR (bakeP [] smR) e w' ∧ Below wx.heap.size wx w') := Lib.hid fun wx h => bake12_any (smL n1 n2) q2 c2 [] none 0 wx (smL_len _ _) (smL_size _ _) (hsl wx h).1 (hsl wx h).2 (by decide) (Sees.nil _ _ _) (fun p h => by cases h) (fun p h => by cases h) (HLX.out wx h)
      have HTE : Hid (∀ wx, Below wr.heap.size wr wx → Calls Tryz.prog 18 #[.slice q2 2 c2] wx fun e w' => e = .returned (.agg (encU (shaU (putR smR))).toArray) ∧ Below wx.heap.size wx w') := Lib.hid fun wx h => tell12_any (smL n1 n2) q2 c2 wx (smL_len _ _) (smL_size _ _) (hsl wx h).1 (hsl wx h).2 (HLX.out wx h)
      have HND : Hid (∀ wx, Below wr.heap.size wr wx → Calls Tryz.prog 20 #[.slice q2 2 c2] wx fun e w' => (∃ v, e = .returned v ∧ OwnU w' wx.heap.size 31 v (srt (needK smR))) ∧ Below wx.heap.size wx w') := Lib.hid fun wx h => needs12_any (smL n1 n2) q2 c2 wx (show 2 ≤ 400 by decide) (fun l hl => by
        rcases List.mem_cons.1 hl with rfl | hl
        · exact (show 0 ≤ 2049 by decide)
        · rw [List.mem_singleton.1 hl]; exact (show 1 ≤ 2049 by decide)) (hsl wx h).1 (hsl wx h).2
      have HRO : Hid (∀ wx, Below wr.heap.size wr wx → Calls Tryz.prog 17 #[.slice q2 2 c2] wx fun e w' => (∃ v R, e = .returned v ∧ LnV w' v R ∧ LnO w' wx.heap.size 72 R ∧ R.map keyL = smR) ∧ Below wx.heap.size wx w') := Lib.hid fun wx h => recipeOf_any (smL n1 n2) q2 c2 wx (show 2 ≤ 1000000 by decide) (fun l hl => by
        rcases List.mem_cons.1 hl with rfl | hl
        · exact (show 0 ≤ 1000000 by decide)
        · rw [List.mem_singleton.1 hl]; exact (show 1 ≤ 1000000 by decide)) (hsl wx h).1 (hsl wx h).2
      have HSL := Lib.hid hsl
      clear hsl
      obtain ⟨bb, hbb⟩ : ∃ bb, bb = putR smR := ⟨_, rfl⟩
      have f0 : bb.length = 73 := by rw [hbb]; exact put_len
      have f1 : getP bb = (0, smR) := by rw [hbb]; exact get_all
      have f2 : (getP (bb.take 72)).1 = 3 := by rw [hbb]; exact get_less
      have f3 : (getP (bb ++ [0#8])).1 = 3 := by rw [hbb]; exact get_more
      rw [← hbb] at HPT HTE
      have F0 := Lib.hid f0
      have F1 := Lib.hid f1
      have F2 := Lib.hid f2
      have F3 := Lib.hid f3
      clear f0 f1 f2 f3 hbb
      go_upto_region 11 with fail
      refine wp_region_lit ?_
      try simp only [Act.put, List.setIfInBounds_toArray, List.set_cons_zero, List.set_cons_succ]
      refine lp_pure (v := ?_) (by kernel_rfl) ?_ ?_
      rotate_left
      · go_simp; try with_reducible rfl
      try simp only [Act.put, List.setIfInBounds_toArray, List.set_cons_zero, List.set_cons_succ]
      refine lp_step (by kernel_rfl) (fun K hK => ?_)
      go_wp2_with fail
      refine Calls.mono (HPT.out wr (Below.refl _ _)) ?_
      rintro e w11 ⟨v11, rfl, ho, hb⟩
      have HK1 := Lib.hid hb
      obtain ⟨qb, cb, hvb, hcb, hqb, hsb⟩ := ho.bs
      have HBB : Hid (Bs w11 (.slice qb 73 cb) bb) := Lib.hid ⟨qb, cb, by rw [F0.out], hcb, hqb, hsb⟩
      rw [F0.out] at hvb
      subst hvb
      have HGB : Hid (∀ wx, Below w11.heap.size w11 wx → Calls Tryz.prog 15 #[.slice qb 73 cb] wx fun e w' => (∃ v R, e = .returned (.tuple #[v, .int .i64 ((0 : Nat) : Int)]) ∧ LnV w' v R ∧ LnO w' wx.heap.size 31 R ∧ R.map keyL = (getP bb).2) ∧ Below wx.heap.size wx w') := Lib.hid fun wx h => get_said (by rw [F1.out]) (by have := F0.out; omega) (HBB.out.keep h)
      have HBT : Hid (Bs w11 (.slice qb 72 cb) (bb.take 72)) := Lib.hid ⟨qb, cb, by rw [List.length_take, F0.out]; rfl, by rw [List.length_take]; omega, hqb, by rw [List.map_take]; exact hsb.head 72⟩
      have HGT : Hid (∀ wx, Below w11.heap.size w11 wx → Calls Tryz.prog 15 #[.slice qb 72 cb] wx fun e w' => (∃ v R, e = .returned (.tuple #[v, .int .i64 ((3 : Nat) : Int)]) ∧ LnV w' v R ∧ LnO w' wx.heap.size 31 R ∧ R.map keyL = (getP (bb.take 72)).2) ∧ Below wx.heap.size wx w') := Lib.hid fun wx h => get_said F2.out (by rw [List.length_take]; omega) (HBT.out.keep h)
      have HCUT : Hid (∀ wx, (Instr.slice 40 (.slice qb 73 cb) none (some (.int .i64 72)) none).run Tryz.prog wx = .ok (.slice qb 72 cb) wx) := Lib.hid fun wx => by
        have h := cut_to qb 73 cb 72 (by have := F0.out; omega) wx
        rw [cutQ_zero] at h
        exact h
      have HK2 := Lib.hid (Below.refl w11.heap.size w11)
      clear ho hb hcb hqb hsb HPT HBT
      refine hK _ _ ?_
      clear hK
      try simp only [Act.put, List.setIfInBounds_toArray, List.set_cons_zero, List.set_cons_succ]
      refine lp_pure (v := ?_) (by kernel_rfl) ?_ ?_
      rotate_left
      · go_simp; try with_reducible rfl
      try simp only [Act.put, List.setIfInBounds_toArray, List.set_cons_zero, List.set_cons_succ]
      refine wpList_nil ?_
      go_upto_region 12 with fail
      refine wp_region_lit ?_
      try simp only [Act.put, List.setIfInBounds_toArray, List.set_cons_zero, List.set_cons_succ]
      refine lp_pure (v := ?_) (by kernel_rfl) ?_ ?_
      rotate_left
      · go_simp; try with_reducible rfl
      try simp only [Act.put, List.setIfInBounds_toArray, List.set_cons_zero, List.set_cons_succ]
      refine lp_step (by kernel_rfl) (fun K hK => ?_)
      go_wp2_with fail
      refine Calls.mono (HBK.out w11 HK1.out) ?_
      rintro e w12 ⟨⟨v12, T12, he, ⟨q12, c12, rfl, _, _, _⟩, _, _⟩, hb⟩
      rw [bake_none] at he
      subst he
      replace HK1 := Lib.hid (HK1.out.trans (hb.mono HK1.out.size))
      replace HK2 := Lib.hid (HK2.out.trans (hb.mono HK2.out.size))
      clear hb HBK
      refine hK _ _ ?_
      clear hK
      try simp only [Act.put, List.setIfInBounds_toArray, List.set_cons_zero, List.set_cons_succ]
      refine lp_pure (v := ?_) (by kernel_rfl) ?_ ?_
      rotate_left
      · go_simp; try with_reducible rfl
      try simp only [Act.put, List.setIfInBounds_toArray, List.set_cons_zero, List.set_cons_succ]
      refine lp_pure (v := ?_) (by kernel_rfl) ?_ ?_
      rotate_left
      · go_simp; try with_reducible rfl
      try simp only [Act.put, List.setIfInBounds_toArray, List.set_cons_zero, List.set_cons_succ]
      refine lp_pure (v := ?_) (by kernel_rfl) ?_ ?_
      rotate_left
      · go_simp; try with_reducible rfl
      try simp only [Act.put, List.setIfInBounds_toArray, List.set_cons_zero, List.set_cons_succ]
      refine wpList_alloc rfl _ rfl #[.slice none 0 0] (zTr_run w12) ?_
      try simp only [Act.put, List.setIfInBounds_toArray, List.set_cons_zero, List.set_cons_succ]
      have HZ6 := Lib.hid (Has.made w12 28 #[.slice none 0 0])
      have HA6 := Lib.hid ((Below.refl w12.heap.size w12).alloc (Nat.le_refl _) (.cells #[.slice none 0 0] 28))
      refine wpList_store_row rfl 28 (.tmp 7) (.tmp 91) rfl w12.heap.size #[.slice q12 T12.length c12] rfl rfl 28 [Value.slice none 0 0].toArray HZ6.out (by exact szTr) rfl (by kernel_rfl) ?_
      simp only [Act.put]
      have hbz : Below w12.heap.size w12 ((w12.alloc (.cells #[.slice none 0 0] 28)).setRow w12.heap.size #[.slice q12 T12.length c12]) := below_row HA6.out (Nat.le_refl _) _
      replace HK1 := Lib.hid (HK1.out.trans (hbz.mono HK1.out.size))
      replace HK2 := Lib.hid (HK2.out.trans (hbz.mono HK2.out.size))
      generalize (w12.alloc (.cells #[.slice none 0 0] 28)).setRow w12.heap.size #[.slice q12 T12.length c12] = w13 at *
      clear hbz HZ6 HA6
      generalize w12.heap.size = bw13 at *
      try simp only [Act.put, List.setIfInBounds_toArray, List.set_cons_zero, List.set_cons_succ]
      refine lp_pure (v := ?_) (by kernel_rfl) ?_ ?_
      rotate_left
      · go_simp; try with_reducible rfl
      try simp only [Act.put, List.setIfInBounds_toArray, List.set_cons_zero, List.set_cons_succ]
      refine wpList_nil ?_
      go_upto_region 15 with fail
      have hsn := HSL.out wr (Below.refl _ _)
      obtain ⟨ar, rfl, _, hcell0⟩ := Sees.ln hsn.1 (i := 0) (show 0 < (smL n1 n2).length from Nat.zero_lt_succ 1)
      obtain ⟨ar', har, _, hcell1⟩ := Sees.ln hsn.1 (i := 1) (show 1 < (smL n1 n2).length from Nat.lt_succ_self 1)
      injection har with har
      subst har
      obtain ⟨qn, cn, hn2, _, _, _⟩ := hsn.2 (pAB, false, shaU tH, n2, [shaU tH]) (List.mem_cons_of_mem _ (List.mem_singleton.2 rfl))
      have hn2' : n2 = .slice qn 1 cn := hn2
      subst hn2'
      clear hn2 hsn
      refine wp_region_org [(0, true), (1, true), (2, true), (3, true), (4, true), (5, true), (6, true), (7, true), (8, true), (9, false), (10, true)] (by kernel_rfl) (by kernel_rfl) (by kernel_rfl) ?_
      replace HK1 := Lib.hid HK1.out.drew
      replace HK2 := Lib.hid HK2.out.drew
      generalize w13.drew = wd at *
      have HC0 : Hid (∀ w', Ext wd w' → ∀ j u, (encL (pA, true, zSu, n1, []))[j]? = some u → w'.cell? (ar.add j) = some u) := Lib.hid (fun w' hv j u hu => by
        have h := hcell0 w' (HK1.out.trans (hv.mono HK1.out.size)) j u hu
        rw [add_add, Nat.zero_mul, Nat.zero_add] at h
        exact h)
      have HC34 : Hid (∀ w', Ext wd w' → w'.cell? ⟨ar.block, ar.off + 35 + 34, none⟩ = some (.slice qn 1 cn)) := Lib.hid (fun w' hv => hcell1 w' (HK1.out.trans (hv.mono HK1.out.size)) 34 _ (encL_n (pAB, false, shaU tH, .slice qn 1 cn, [shaU tH])))
      have HUN := Lib.hid (HSL.out wd HK1.out).2
      clear hcell0 hcell1
      simp only [pickOrs, List.getElem?_cons_zero, List.getElem?_cons_succ]
      refine org_pure (v := ?_) (by kernel_rfl) ?_ ?_
      rotate_left
      · intro w' hv; clear hv; go_simp; try with_reducible rfl
      try simp only [Act.put, List.setIfInBounds_toArray, List.set_cons_zero, List.set_cons_succ]
      refine org_pure (v := ?_) (by kernel_rfl) ?_ ?_
      rotate_left
      · intro w' hv; clear hv; go_simp; try with_reducible rfl
      try simp only [Act.put, List.setIfInBounds_toArray, List.set_cons_zero, List.set_cons_succ]
      refine org_pure (by kernel_rfl) (fun w' hv => load_ln 24 34 elLn (.tmp 102) rfl ar rfl (pA, true, zSu, n1, []) (HC0.out w' hv)) ?_
      try simp only [Act.put, List.setIfInBounds_toArray, List.set_cons_zero, List.set_cons_succ]
      refine org_pure (by kernel_rfl) (fun w' hv => build_su 31 #[(0, .const (.int .u8 1))] rfl oneS [(0, .int .u8 1)] (by kernel_rfl) built_s1) ?_
      try simp only [Act.put, List.setIfInBounds_toArray, List.set_cons_zero, List.set_cons_succ]
      refine org_pure (v := ?_) (by kernel_rfl) ?_ ?_
      rotate_left
      · intro w' hv; clear hv; go_simp; try with_reducible rfl
      try simp only [Act.put, List.setIfInBounds_toArray, List.set_cons_zero, List.set_cons_succ]
      refine org_pure (v := ?_) (by kernel_rfl) ?_ ?_
      rotate_left
      · intro w' hv; clear hv; go_simp; try with_reducible rfl
      try simp only [Act.put, List.setIfInBounds_toArray, List.set_cons_zero, List.set_cons_succ]
      refine org_pure (v := ?_) (by kernel_rfl) ?_ ?_
      rotate_left
      · intro w' hv; clear hv; go_simp; try with_reducible rfl
      try simp only [Act.put, List.setIfInBounds_toArray, List.set_cons_zero, List.set_cons_succ]
      refine org_pure (by kernel_rfl) (fun w' hv => run_load1 32 (.tmp 107) rfl ⟨ar.block, ar.off + 35 + 34, none⟩ rfl Tryz.underlying32 rfl (HC34.out w' hv)) ?_
      try simp only [Act.put, List.setIfInBounds_toArray, List.set_cons_zero, List.set_cons_succ]
      refine org_pure (by kernel_rfl) (fun w' hv => build_val 34 _ rfl (encL (pAB, false, oneS, .slice qn 1 cn, [shaU tH])).toArray [(0, .string pAB), (2, .agg (encU oneS).toArray), (3, .slice qn 1 cn)] (by kernel_rfl) (built_file pAB oneS qn 1 cn [shaU tH])) ?_
      try simp only [Act.put, List.setIfInBounds_toArray, List.set_cons_zero, List.set_cons_succ]
      refine org_step (by kernel_rfl) (fun K hK => wp_two_ln (.tmp 103) (.tmp 109) rfl (pA, true, zSu, n1, []) (pAB, false, oneS, .slice qn 1 cn, [shaU tH]) rfl rfl (hK _ _ ⟨(Below.refl _ _).alloc (Nat.le_refl _) _, ?_⟩))
      try simp only [Act.put, List.setIfInBounds_toArray, List.set_cons_zero, List.set_cons_succ]
      have HA : Hid (Below wd.heap.size wd (wd.alloc (.cells (rowL [(pA, true, zSu, n1, []), (pAB, false, oneS, .slice qn 1 cn, [shaU tH])]).toArray 34))) := Lib.hid ((Below.refl _ _).alloc (Nat.le_refl _) _)
      have HWR : Hid (LF (wd.alloc (.cells (rowL [(pA, true, zSu, n1, []), (pAB, false, oneS, .slice qn 1 cn, [shaU tH])]).toArray 34)) (.slice (some ⟨wd.heap.size, 0, none⟩) 2 2) [(pA, true, zSu, n1, []), (pAB, false, oneS, .slice qn 1 cn, [shaU tH])]) := Lib.hid (LF.two (p := (pA, true, zSu, n1, [])) (r := (pAB, false, oneS, .slice qn 1 cn, [shaU tH])) (HUN.out (pA, true, zSu, n1, []) List.mem_cons_self) (HUN.out (pAB, false, shaU tH, .slice qn 1 cn, [shaU tH]) (List.mem_cons_of_mem _ (List.mem_singleton.2 rfl))))
      clear HC0 HC34 HUN
      generalize wd.alloc (.cells (rowL [(pA, true, zSu, n1, []), (pAB, false, oneS, .slice qn 1 cn, [shaU tH])]).toArray 34) = w15 at *
      replace HK1 := Lib.hid (HK1.out.trans (HA.out.mono HK1.out.size))
      replace HK2 := Lib.hid (HK2.out.trans (HA.out.mono HK2.out.size))
      clear HA
      generalize wd.heap.size = gw at *
      refine org_pure (v := ?_) (by kernel_rfl) ?_ ?_
      rotate_left
      · intro w' hv; clear hv; go_simp; try with_reducible rfl
      try simp only [Act.put, List.setIfInBounds_toArray, List.set_cons_zero, List.set_cons_succ]
      refine org_nil ?_
      go_upto_region 16 with fail
      refine wp_region_lit ?_
      try simp only [Act.put, List.setIfInBounds_toArray, List.set_cons_zero, List.set_cons_succ]
      refine lp_pure (v := ?_) (by kernel_rfl) ?_ ?_
      rotate_left
      · go_simp; try with_reducible rfl
      try simp only [Act.put, List.setIfInBounds_toArray, List.set_cons_zero, List.set_cons_succ]
      refine lp_step (by kernel_rfl) (fun K hK => wp_lit8 5 _ rfl tHv (by decide) (by decide) (by kernel_rfl) (hK _ _ ?_))
      try simp only [Act.put, List.setIfInBounds_toArray, List.set_cons_zero, List.set_cons_succ]
      refine lp_step (by kernel_rfl) (fun K hK => wp_convk (.tmp 113) rfl tHv 5 5 rfl (hK _ _ ?_))
      try simp only [Act.put, List.setIfInBounds_toArray, List.set_cons_zero, List.set_cons_succ]
      have HA : Hid (Below w15.heap.size w15 (w15.alloc (.cells tHv 5 (tHv.size, tHv.size + 1)))) := Lib.hid ((Below.refl _ _).alloc (Nat.le_refl _) _)
      have hbh : Bs (w15.alloc (.cells tHv 5 (tHv.size, tHv.size + 1))) (.slice (some ⟨w15.heap.size, 0, none⟩) 5 5) tH := bs_litk w15 tH tHv _ tH_eq 5 rfl
      generalize w15.alloc (.cells tHv 5 (tHv.size, tHv.size + 1)) = w16 at *
      replace HK1 := Lib.hid (HK1.out.trans (HA.out.mono HK1.out.size))
      replace HK2 := Lib.hid (HK2.out.trans (HA.out.mono HK2.out.size))
      replace HWR := Lib.hid (HWR.out.keep HA.out)
      clear HA
      generalize w15.heap.size = gh at *
      obtain ⟨qh, ch, hvh, hch, hqh, hsh⟩ := hbh
      have hvh' : qh = some ⟨gh, 0, none⟩ ∧ ch = 5 := by injection hvh with h1 h2 h3; exact ⟨h1.symm, h3.symm⟩
      obtain ⟨rfl, rfl⟩ := hvh'
      have HCT : Hid (Calls Tryz.prog 14 #[.slice (some ⟨gh, 0, none⟩) 5 5] w16 fun e w' => (∃ v L, e = .returned v ∧ PcV w' v L ∧ Pcb w' L ∧ L.map keyP = cutP tH) ∧ Below w16.heap.size w16 w') := Lib.hid (ccut_any tH (some ⟨gh, 0, none⟩) 5 w16 (by decide) (fun h => by cases h) (by decide) hsh (HLX.out w16 HK1.out))
      clear hvh hch hqh hsh
      refine lp_step (by kernel_rfl) (fun K hK => ?_)
      go_wp2_with fail
      refine Calls.mono (HCT.out) ?_
      rintro e w17 ⟨⟨v17, LP, rfl, ⟨q17, c17, rfl, _, _, hs17⟩, hpb, hk17⟩, hb⟩
      rw [tH_cut] at hk17
      obtain ⟨pv, rfl⟩ := keys_one hk17
      replace HK1 := Lib.hid (HK1.out.trans (hb.mono HK1.out.size))
      replace HK2 := Lib.hid (HK2.out.trans (hb.mono HK2.out.size))
      replace HWR := Lib.hid (HWR.out.keep hb)
      obtain ⟨⟨qw, cw, hvw, _, _, hsw⟩, hlw⟩ := HWR.out
      have hqw : qw = some ⟨gw, 0, none⟩ ∧ cw = 2 := by injection hvw with h1 h2 h3; exact ⟨h1.symm, h3.symm⟩
      obtain ⟨rfl, rfl⟩ := hqw
      have HBK : Hid (Calls Tryz.prog 11 #[.slice (some ⟨gw, 0, none⟩) 2 2, .slice q17 1 c17] w17 fun e w' => BakedR (bakeP [(shaU tH, pv, tH)] wrK) e w' ∧ Below w17.heap.size w17 w') := Lib.hid (bake12_any [(pA, true, zSu, n1, []), (pAB, false, oneS, .slice qn 1 cn, [shaU tH])] (some ⟨gw, 0, none⟩) 2 [(shaU tH, pv, tH)] q17 c17 w17 (Nat.lt_of_lt_of_le (show 2 < 3 from Nat.lt_succ_self 2) (by omega)) (fun l hl => by
        rcases List.mem_cons.1 hl with rfl | hl
        · exact ⟨Nat.lt_of_lt_of_le (show pA.size < 10 by decide) (by omega), Nat.lt_of_lt_of_le (show 0 < 10 by decide) (by omega)⟩
        · rw [List.mem_singleton.1 hl]; exact ⟨Nat.lt_of_lt_of_le (show pAB.size < 10 by decide) (by omega), Nat.lt_of_lt_of_le (show 1 < 10 by decide) (by omega)⟩) hsw hlw (by simp) hs17 hpb (fun p hp => by rw [List.mem_singleton.1 hp]; exact Nat.le_of_ble_eq_true rfl) (HLX.out w17 HK1.out))
      have hv4 : (Value.slice q17 [((shaU tH, pv, tH) : Pc)].length c17) = .slice q17 1 c17 := rfl
      rw [hv4]
      clear hb hk17 hpb hs17 hv4 hvw hsw hlw HCT HWR
      refine hK _ _ ?_
      clear hK
      try simp only [Act.put, List.setIfInBounds_toArray, List.set_cons_zero, List.set_cons_succ]
      refine lp_step (by kernel_rfl) (fun K hK => ?_)
      go_wp2_with fail
      refine Calls.mono (HBK.out) ?_
      rintro e w18 ⟨⟨v18, T18, he, ⟨q18, c18, rfl, _, _, _⟩, _, _⟩, hb⟩
      rw [bake_wrong] at he
      subst he
      replace HK1 := Lib.hid (HK1.out.trans (hb.mono HK1.out.size))
      replace HK2 := Lib.hid (HK2.out.trans (hb.mono HK2.out.size))
      clear hb HBK
      refine hK _ _ ?_
      clear hK
      try simp only [Act.put, List.setIfInBounds_toArray, List.set_cons_zero, List.set_cons_succ]
      refine lp_pure (v := ?_) (by kernel_rfl) ?_ ?_
      rotate_left
      · go_simp; try with_reducible rfl
      try simp only [Act.put, List.setIfInBounds_toArray, List.set_cons_zero, List.set_cons_succ]
      refine lp_pure (v := ?_) (by kernel_rfl) ?_ ?_
      rotate_left
      · go_simp; try with_reducible rfl
      try simp only [Act.put, List.setIfInBounds_toArray, List.set_cons_zero, List.set_cons_succ]
      refine lp_pure (v := ?_) (by kernel_rfl) ?_ ?_
      rotate_left
      · go_simp; try with_reducible rfl
      try simp only [Act.put, List.setIfInBounds_toArray, List.set_cons_zero, List.set_cons_succ]
      refine wpList_alloc rfl _ rfl #[.slice none 0 0] (zTr_run w18) ?_
      try simp only [Act.put, List.setIfInBounds_toArray, List.set_cons_zero, List.set_cons_succ]
      have HZ6 := Lib.hid (Has.made w18 28 #[.slice none 0 0])
      have HA6 := Lib.hid ((Below.refl w18.heap.size w18).alloc (Nat.le_refl _) (.cells #[.slice none 0 0] 28))
      refine wpList_store_row rfl 28 (.tmp 10) (.tmp 117) rfl w18.heap.size #[.slice q18 T18.length c18] rfl rfl 28 [Value.slice none 0 0].toArray HZ6.out (by exact szTr) rfl (by kernel_rfl) ?_
      simp only [Act.put]
      have hbz : Below w18.heap.size w18 ((w18.alloc (.cells #[.slice none 0 0] 28)).setRow w18.heap.size #[.slice q18 T18.length c18]) := below_row HA6.out (Nat.le_refl _) _
      replace HK1 := Lib.hid (HK1.out.trans (hbz.mono HK1.out.size))
      replace HK2 := Lib.hid (HK2.out.trans (hbz.mono HK2.out.size))
      generalize (w18.alloc (.cells #[.slice none 0 0] 28)).setRow w18.heap.size #[.slice q18 T18.length c18] = w19 at *
      clear hbz HZ6 HA6
      generalize w18.heap.size = bw19 at *
      try simp only [Act.put, List.setIfInBounds_toArray, List.set_cons_zero, List.set_cons_succ]
      refine lp_pure (v := ?_) (by kernel_rfl) ?_ ?_
      rotate_left
      · go_simp; try with_reducible rfl
      try simp only [Act.put, List.setIfInBounds_toArray, List.set_cons_zero, List.set_cons_succ]
      refine wpList_nil ?_
      go_upto_region 17 with fail
      have c2 := HCUT.out w19
      have k72 : IntKind.i64.wrap 72 = 72 := by decide
      refine wp_region_lit ?_
      try simp only [Act.put, List.setIfInBounds_toArray, List.set_cons_zero, List.set_cons_succ]
      refine lp_pure (v := ?_) (by kernel_rfl) ?_ ?_
      rotate_left
      · go_simp; try with_reducible rfl
      try simp only [Act.put, List.setIfInBounds_toArray, List.set_cons_zero, List.set_cons_succ]
      refine lp_pure (v := ?_) (by kernel_rfl) ?_ ?_
      rotate_left
      · go_simp; try with_reducible rfl
      try simp only [Act.put, List.setIfInBounds_toArray, List.set_cons_zero, List.set_cons_succ]
      refine lp_pure (v := ?_) (by kernel_rfl) ?_ ?_
      rotate_left
      · go_simp; try with_reducible rfl
      try simp only [Act.put, List.setIfInBounds_toArray, List.set_cons_zero, List.set_cons_succ]
      refine lp_pure (v := ?_) (by kernel_rfl) ?_ ?_
      rotate_left
      · go_simp; try with_reducible rfl
      try simp only [Act.put, List.setIfInBounds_toArray, List.set_cons_zero, List.set_cons_succ]
      refine lp_pure (v := ?_) (by kernel_rfl) ?_ ?_
      rotate_left
      · go_simp; try with_reducible rfl
      try simp only [Act.put, List.setIfInBounds_toArray, List.set_cons_zero, List.set_cons_succ]
      refine lp_step (by kernel_rfl) (fun K hK => ?_)
      go_wp2_with fail
      refine Calls.mono (HGT.out w19 HK2.out) ?_
      rintro e w20 ⟨⟨v20, R20, rfl, hv, ho, hk⟩, hb⟩
      replace HK1 := Lib.hid (HK1.out.trans (hb.mono HK1.out.size))
      replace HK2 := Lib.hid (HK2.out.trans (hb.mono HK2.out.size))
      clear hb hv ho hk c2 HGT HCUT
      refine hK _ _ ?_
      clear hK
      try simp only [Act.put, List.setIfInBounds_toArray, List.set_cons_zero, List.set_cons_succ]
      refine lp_pure (v := ?_) (by kernel_rfl) ?_ ?_
      rotate_left
      · go_simp; try with_reducible rfl
      try simp only [Act.put, List.setIfInBounds_toArray, List.set_cons_zero, List.set_cons_succ]
      refine lp_pure (v := ?_) (by kernel_rfl) ?_ ?_
      rotate_left
      · go_simp; try with_reducible rfl
      try simp only [Act.put, List.setIfInBounds_toArray, List.set_cons_zero, List.set_cons_succ]
      refine lp_pure (v := ?_) (by kernel_rfl) ?_ ?_
      rotate_left
      · go_simp; try with_reducible rfl
      try simp only [Act.put, List.setIfInBounds_toArray, List.set_cons_zero, List.set_cons_succ]
      refine lp_pure (v := ?_) (by kernel_rfl) ?_ ?_
      rotate_left
      · go_simp; try with_reducible rfl
      try simp only [Act.put, List.setIfInBounds_toArray, List.set_cons_zero, List.set_cons_succ]
      refine lp_pure (v := ?_) (by kernel_rfl) ?_ ?_
      rotate_left
      · go_simp; try with_reducible rfl
      try simp only [Act.put, List.setIfInBounds_toArray, List.set_cons_zero, List.set_cons_succ]
      refine wpList_nil ?_
      go_upto_region 18 with fail
      refine wp_region_lit ?_
      try simp only [Act.put, List.setIfInBounds_toArray, List.set_cons_zero, List.set_cons_succ]
      refine lp_step (by kernel_rfl) (fun K hK => wp_none_b rfl (hK _ _ ?_))
      try simp only [Act.put, List.setIfInBounds_toArray, List.set_cons_zero, List.set_cons_succ]
      have HA : Hid (Below w20.heap.size w20 (w20.alloc (.cells #[] 5))) := Lib.hid ((Below.refl _ _).alloc (Nat.le_refl _) _)
      have HOE : Hid (OwB (w20.alloc (.cells #[] 5)) w20.heap.size (.slice (some ⟨w20.heap.size, 0, none⟩) 0 0) []) := Lib.hid (OwB.empty w20 _ (Nat.le_refl _))
      have hge : w11.heap.size ≤ w20.heap.size := HK2.out.size
      have hgr : wr.heap.size ≤ w20.heap.size := HK1.out.size
      have hgs : w20.heap.size ≤ (w20.alloc (.cells #[] 5)).heap.size := HA.out.size
      generalize w20.alloc (.cells #[] 5) = w21 at *
      replace HK1 := Lib.hid (HK1.out.trans (HA.out.mono HK1.out.size))
      replace HK2 := Lib.hid (HK2.out.trans (HA.out.mono HK2.out.size))
      clear HA
      generalize w20.heap.size = ge at *
      refine lp_pure (v := ?_) (by kernel_rfl) ?_ ?_
      rotate_left
      · go_simp; try with_reducible rfl
      try simp only [Act.put, List.setIfInBounds_toArray, List.set_cons_zero, List.set_cons_succ]
      obtain ⟨qb', cb', hvb, _, hqb, hsb⟩ := HBB.out.keep HK2.out
      have hqq : qb = qb' ∧ cb = cb' := by injection hvb with h1 h2 h3; exact ⟨h1, h3⟩
      obtain ⟨rfl, rfl⟩ := hqq
      refine wpList_add_b rfl (.tmp 129) (.tmp 130) rfl ge _ [] rfl HOE.out qb bb 73 cb F0.out rfl hqb hsb (by have := F0.out; simp only [List.length_nil]; omega) hgs ?_
      intro v22 w22 h1 h2
      have HOA := Lib.hid h1
      have HG2 := Lib.hid (Nat.le_trans hgs h2.size)
      replace HK1 := Lib.hid (HK1.out.trans (h2.mono hgr))
      replace HK2 := Lib.hid (HK2.out.trans (h2.mono hge))
      clear h1 h2 hvb hqb hsb hgs
      try simp only [Act.put, List.setIfInBounds_toArray, List.set_cons_zero, List.set_cons_succ]
      refine lp_step (by kernel_rfl) (fun K hK => wp_lit8 1 _ rfl #[.int .u8 0] (by decide) (by decide) (by kernel_rfl) (hK _ _ ?_))
      try simp only [Act.put, List.setIfInBounds_toArray, List.set_cons_zero, List.set_cons_succ]
      have HA : Hid (Below w22.heap.size w22 (w22.alloc (.cells #[.int .u8 0] 5))) := Lib.hid ((Below.refl _ _).alloc (Nat.le_refl _) _)
      have HZB : Hid (Bs (w22.alloc (.cells #[.int .u8 0] 5)) (.slice (some ⟨w22.heap.size, 0, none⟩) 1 1) [0#8]) := Lib.hid (bs_litk w22 [0#8] _ _ (by kernel_rfl) 1 rfl)
      generalize w22.alloc (.cells #[.int .u8 0] 5) = w23 at *
      replace HK1 := Lib.hid (HK1.out.trans (HA.out.mono HK1.out.size))
      replace HK2 := Lib.hid (HK2.out.trans (HA.out.mono HK2.out.size))
      replace HOA := Lib.hid (HOA.out.keep HA.out)
      clear HA
      generalize w22.heap.size = bw23 at *
      have HG3 := Lib.hid (Nat.le_trans HG2.out (show bw23 ≤ w23.heap.size from by obtain ⟨q, c, hv, _, _, hs⟩ := HZB.out; obtain ⟨a, ha, hl, _⟩ := hs.get (show 0 < 1 from Nat.zero_lt_one); injection hv with e1 _ _; rw [ha] at e1; injection e1 with e1; rw [← e1] at hl; exact Nat.le_of_lt hl))
      obtain ⟨qz, cz, hvz, _, hqz, hsz⟩ := HZB.out
      have hzz : qz = some ⟨bw23, 0, none⟩ ∧ cz = 1 := by injection hvz with h1 h2 h3; exact ⟨h1.symm, h3.symm⟩
      obtain ⟨rfl, rfl⟩ := hzz
      refine wpList_add_b rfl (.tmp 131) (.tmp 132) rfl ge _ ([] ++ bb) rfl HOA.out (some ⟨bw23, 0, none⟩) [0#8] 1 1 rfl rfl (fun h => by cases h) hsz (by rw [List.nil_append]; have := F0.out; simp only [List.length_cons, List.length_nil]; omega) HG3.out ?_
      intro v24 w24 h1 h2
      have HOC := Lib.hid h1
      replace HK1 := Lib.hid (HK1.out.trans (h2.mono hgr))
      replace HK2 := Lib.hid (HK2.out.trans (h2.mono hge))
      clear h1 h2 hvz hqz hsz HZB HOA HG2 HG3 hgr hge
      have HGM := Lib.hid (get_said (b := bb ++ [0#8]) (v := v24) (w := w24) F3.out (by rw [List.length_append, F0.out]; decide) (by have h := HOC.out.bs; rw [List.nil_append] at h; exact h))
      clear HOC
      try simp only [Act.put, List.setIfInBounds_toArray, List.set_cons_zero, List.set_cons_succ]
      refine lp_step (by kernel_rfl) (fun K hK => ?_)
      go_wp2_with fail
      refine Calls.mono (HGM.out) ?_
      rintro e w25 ⟨⟨v25, R25, rfl, hv, ho, hk⟩, hb⟩
      replace HK1 := Lib.hid (HK1.out.trans (hb.mono HK1.out.size))
      replace HK2 := Lib.hid (HK2.out.trans (hb.mono HK2.out.size))
      clear hb hv ho hk HGM
      refine hK _ _ ?_
      clear hK
      try simp only [Act.put, List.setIfInBounds_toArray, List.set_cons_zero, List.set_cons_succ]
      refine lp_pure (v := ?_) (by kernel_rfl) ?_ ?_
      rotate_left
      · go_simp; try with_reducible rfl
      try simp only [Act.put, List.setIfInBounds_toArray, List.set_cons_zero, List.set_cons_succ]
      refine lp_pure (v := ?_) (by kernel_rfl) ?_ ?_
      rotate_left
      · go_simp; try with_reducible rfl
      try simp only [Act.put, List.setIfInBounds_toArray, List.set_cons_zero, List.set_cons_succ]
      refine lp_pure (v := ?_) (by kernel_rfl) ?_ ?_
      rotate_left
      · go_simp; try with_reducible rfl
      try simp only [Act.put, List.setIfInBounds_toArray, List.set_cons_zero, List.set_cons_succ]
      refine lp_pure (v := ?_) (by kernel_rfl) ?_ ?_
      rotate_left
      · go_simp; try with_reducible rfl
      try simp only [Act.put, List.setIfInBounds_toArray, List.set_cons_zero, List.set_cons_succ]
      refine lp_pure (v := ?_) (by kernel_rfl) ?_ ?_
      rotate_left
      · go_simp; try with_reducible rfl
      try simp only [Act.put, List.setIfInBounds_toArray, List.set_cons_zero, List.set_cons_succ]
      refine wpList_nil ?_
      go_upto_region 19 with fail
      refine wp_region_lit ?_
      try simp only [Act.put, List.setIfInBounds_toArray, List.set_cons_zero, List.set_cons_succ]
      refine lp_step (by kernel_rfl) (fun K hK => wp_lit8 3 _ rfl #[.int .u8 1, .int .u8 97, .int .u8 2] (by decide) (by decide) (by kernel_rfl) (hK _ _ ?_))
      try simp only [Act.put, List.setIfInBounds_toArray, List.set_cons_zero, List.set_cons_succ]
      have HA : Hid (Below w25.heap.size w25 (w25.alloc (.cells #[.int .u8 1, .int .u8 97, .int .u8 2] 5))) := Lib.hid ((Below.refl _ _).alloc (Nat.le_refl _) _)
      have HLB : Hid (Bs (w25.alloc (.cells #[.int .u8 1, .int .u8 97, .int .u8 2] 5)) (.slice (some ⟨w25.heap.size, 0, none⟩) 3 3) [1#8, 97#8, 2#8]) := Lib.hid (bs_litk w25 [1#8, 97#8, 2#8] _ _ (by kernel_rfl) 3 rfl)
      generalize w25.alloc (.cells #[.int .u8 1, .int .u8 97, .int .u8 2] 5) = w26 at *
      replace HK1 := Lib.hid (HK1.out.trans (HA.out.mono HK1.out.size))
      replace HK2 := Lib.hid (HK2.out.trans (HA.out.mono HK2.out.size))
      clear HA
      generalize w25.heap.size = bw26 at *
      have HGM := Lib.hid (get_said get_two (by decide) HLB.out)
      clear HLB
      refine lp_step (by kernel_rfl) (fun K hK => ?_)
      go_wp2_with fail
      refine Calls.mono (HGM.out) ?_
      rintro e w27 ⟨⟨v27, R27, rfl, hv, ho, hk⟩, hb⟩
      replace HK1 := Lib.hid (HK1.out.trans (hb.mono HK1.out.size))
      replace HK2 := Lib.hid (HK2.out.trans (hb.mono HK2.out.size))
      clear hb hv ho hk HGM
      refine hK _ _ ?_
      clear hK
      try simp only [Act.put, List.setIfInBounds_toArray, List.set_cons_zero, List.set_cons_succ]
      refine lp_pure (v := ?_) (by kernel_rfl) ?_ ?_
      rotate_left
      · go_simp; try with_reducible rfl
      try simp only [Act.put, List.setIfInBounds_toArray, List.set_cons_zero, List.set_cons_succ]
      refine lp_pure (v := ?_) (by kernel_rfl) ?_ ?_
      rotate_left
      · go_simp; try with_reducible rfl
      try simp only [Act.put, List.setIfInBounds_toArray, List.set_cons_zero, List.set_cons_succ]
      refine lp_pure (v := ?_) (by kernel_rfl) ?_ ?_
      rotate_left
      · go_simp; try with_reducible rfl
      try simp only [Act.put, List.setIfInBounds_toArray, List.set_cons_zero, List.set_cons_succ]
      refine lp_pure (v := ?_) (by kernel_rfl) ?_ ?_
      rotate_left
      · go_simp; try with_reducible rfl
      try simp only [Act.put, List.setIfInBounds_toArray, List.set_cons_zero, List.set_cons_succ]
      refine lp_pure (v := ?_) (by kernel_rfl) ?_ ?_
      rotate_left
      · go_simp; try with_reducible rfl
      try simp only [Act.put, List.setIfInBounds_toArray, List.set_cons_zero, List.set_cons_succ]
      refine wpList_nil ?_
      go_upto_region 20 with fail
      refine wp_region_lit ?_
      try simp only [Act.put, List.setIfInBounds_toArray, List.set_cons_zero, List.set_cons_succ]
      refine lp_step (by kernel_rfl) (fun K hK => wp_lit8 1 _ rfl #[.int .u8 69] (by decide) (by decide) (by kernel_rfl) (hK _ _ ?_))
      try simp only [Act.put, List.setIfInBounds_toArray, List.set_cons_zero, List.set_cons_succ]
      have HA : Hid (Below w27.heap.size w27 (w27.alloc (.cells #[.int .u8 69] 5))) := Lib.hid ((Below.refl _ _).alloc (Nat.le_refl _) _)
      have HLB : Hid (Bs (w27.alloc (.cells #[.int .u8 69] 5)) (.slice (some ⟨w27.heap.size, 0, none⟩) 1 1) [69#8]) := Lib.hid (bs_litk w27 [69#8] _ _ (by kernel_rfl) 1 rfl)
      generalize w27.alloc (.cells #[.int .u8 69] 5) = w28 at *
      replace HK1 := Lib.hid (HK1.out.trans (HA.out.mono HK1.out.size))
      replace HK2 := Lib.hid (HK2.out.trans (HA.out.mono HK2.out.size))
      clear HA
      generalize w27.heap.size = bw28 at *
      have HGM := Lib.hid (get_said get_big (by decide) HLB.out)
      clear HLB
      refine lp_step (by kernel_rfl) (fun K hK => ?_)
      go_wp2_with fail
      refine Calls.mono (HGM.out) ?_
      rintro e w29 ⟨⟨v29, R29, rfl, hv, ho, hk⟩, hb⟩
      replace HK1 := Lib.hid (HK1.out.trans (hb.mono HK1.out.size))
      replace HK2 := Lib.hid (HK2.out.trans (hb.mono HK2.out.size))
      clear hb hv ho hk HGM
      refine hK _ _ ?_
      clear hK
      try simp only [Act.put, List.setIfInBounds_toArray, List.set_cons_zero, List.set_cons_succ]
      refine lp_pure (v := ?_) (by kernel_rfl) ?_ ?_
      rotate_left
      · go_simp; try with_reducible rfl
      try simp only [Act.put, List.setIfInBounds_toArray, List.set_cons_zero, List.set_cons_succ]
      refine lp_pure (v := ?_) (by kernel_rfl) ?_ ?_
      rotate_left
      · go_simp; try with_reducible rfl
      try simp only [Act.put, List.setIfInBounds_toArray, List.set_cons_zero, List.set_cons_succ]
      refine lp_pure (v := ?_) (by kernel_rfl) ?_ ?_
      rotate_left
      · go_simp; try with_reducible rfl
      try simp only [Act.put, List.setIfInBounds_toArray, List.set_cons_zero, List.set_cons_succ]
      refine lp_pure (v := ?_) (by kernel_rfl) ?_ ?_
      rotate_left
      · go_simp; try with_reducible rfl
      try simp only [Act.put, List.setIfInBounds_toArray, List.set_cons_zero, List.set_cons_succ]
      refine lp_pure (v := ?_) (by kernel_rfl) ?_ ?_
      rotate_left
      · go_simp; try with_reducible rfl
      try simp only [Act.put, List.setIfInBounds_toArray, List.set_cons_zero, List.set_cons_succ]
      refine wpList_nil ?_
      go_upto_region 21 with fail
      refine wp_region_lit ?_
      try simp only [Act.put, List.setIfInBounds_toArray, List.set_cons_zero, List.set_cons_succ]
      have HGM := Lib.hid (get_said (k := 0) (w := w29) (by rw [get_none]) (by decide) (Bs.nil w29))
      refine lp_step (by kernel_rfl) (fun K hK => ?_)
      go_wp2_with fail
      refine Calls.mono (HGM.out) ?_
      rintro e w30 ⟨⟨v30, R30, rfl, hv, ho, hk⟩, hb⟩
      replace HK1 := Lib.hid (HK1.out.trans (hb.mono HK1.out.size))
      replace HK2 := Lib.hid (HK2.out.trans (hb.mono HK2.out.size))
      rw [get_none] at hk
      have hr0 : R30 = [] := List.map_eq_nil_iff.1 hk
      subst hr0
      obtain ⟨q30, c30, rfl, _, _, _⟩ := hv
      rw [show ([] : List Ln).length = 0 from rfl]
      clear hb ho hk HGM
      refine hK _ _ ?_
      clear hK
      try simp only [Act.put, List.setIfInBounds_toArray, List.set_cons_zero, List.set_cons_succ]
      refine lp_pure (v := ?_) (by kernel_rfl) ?_ ?_
      rotate_left
      · go_simp; try with_reducible rfl
      try simp only [Act.put, List.setIfInBounds_toArray, List.set_cons_zero, List.set_cons_succ]
      refine lp_pure (v := ?_) (by kernel_rfl) ?_ ?_
      rotate_left
      · go_simp; try with_reducible rfl
      try simp only [Act.put, List.setIfInBounds_toArray, List.set_cons_zero, List.set_cons_succ]
      refine lp_pure (v := ?_) (by kernel_rfl) ?_ ?_
      rotate_left
      · go_simp; try with_reducible rfl
      try simp only [Act.put, List.setIfInBounds_toArray, List.set_cons_zero, List.set_cons_succ]
      refine lp_pure (v := ?_) (by kernel_rfl) ?_ ?_
      rotate_left
      · go_simp; try with_reducible rfl
      try simp only [Act.put, List.setIfInBounds_toArray, List.set_cons_zero, List.set_cons_succ]
      refine lp_pure (v := ?_) (by kernel_rfl) ?_ ?_
      rotate_left
      · go_simp; try with_reducible rfl
      try simp only [Act.put, List.setIfInBounds_toArray, List.set_cons_zero, List.set_cons_succ]
      refine wpList_nil ?_
      go_upto_region 22 with fail
      refine wp_region_lit ?_
      try simp only [Act.put, List.setIfInBounds_toArray, List.set_cons_zero, List.set_cons_succ]
      refine lp_step (by kernel_rfl) (fun K hK => wp_lit8 3 _ rfl #[.int .u8 1, .int .u8 65, .int .u8 1] (by decide) (by decide) (by kernel_rfl) (hK _ _ ?_))
      try simp only [Act.put, List.setIfInBounds_toArray, List.set_cons_zero, List.set_cons_succ]
      have HA : Hid (Below w30.heap.size w30 (w30.alloc (.cells #[.int .u8 1, .int .u8 65, .int .u8 1] 5))) := Lib.hid ((Below.refl _ _).alloc (Nat.le_refl _) _)
      have HLB : Hid (Bs (w30.alloc (.cells #[.int .u8 1, .int .u8 65, .int .u8 1] 5)) (.slice (some ⟨w30.heap.size, 0, none⟩) 3 3) [1#8, 65#8, 1#8]) := Lib.hid (bs_litk w30 [1#8, 65#8, 1#8] _ _ (by kernel_rfl) 3 rfl)
      generalize w30.alloc (.cells #[.int .u8 1, .int .u8 65, .int .u8 1] 5) = w31 at *
      replace HK1 := Lib.hid (HK1.out.trans (HA.out.mono HK1.out.size))
      replace HK2 := Lib.hid (HK2.out.trans (HA.out.mono HK2.out.size))
      clear HA
      generalize w30.heap.size = bw31 at *
      have HGM := Lib.hid (get_said get_A (by decide) HLB.out)
      clear HLB
      refine lp_step (by kernel_rfl) (fun K hK => ?_)
      go_wp2_with fail
      refine Calls.mono (HGM.out) ?_
      rintro e w32 ⟨⟨v32, R32, rfl, hv, ho, hk⟩, hb⟩
      replace HK1 := Lib.hid (HK1.out.trans (hb.mono HK1.out.size))
      replace HK2 := Lib.hid (HK2.out.trans (hb.mono HK2.out.size))
      clear hb hv ho hk HGM
      refine hK _ _ ?_
      clear hK
      try simp only [Act.put, List.setIfInBounds_toArray, List.set_cons_zero, List.set_cons_succ]
      refine lp_pure (v := ?_) (by kernel_rfl) ?_ ?_
      rotate_left
      · go_simp; try with_reducible rfl
      try simp only [Act.put, List.setIfInBounds_toArray, List.set_cons_zero, List.set_cons_succ]
      refine lp_pure (v := ?_) (by kernel_rfl) ?_ ?_
      rotate_left
      · go_simp; try with_reducible rfl
      try simp only [Act.put, List.setIfInBounds_toArray, List.set_cons_zero, List.set_cons_succ]
      refine lp_pure (v := ?_) (by kernel_rfl) ?_ ?_
      rotate_left
      · go_simp; try with_reducible rfl
      try simp only [Act.put, List.setIfInBounds_toArray, List.set_cons_zero, List.set_cons_succ]
      refine lp_pure (v := ?_) (by kernel_rfl) ?_ ?_
      rotate_left
      · go_simp; try with_reducible rfl
      try simp only [Act.put, List.setIfInBounds_toArray, List.set_cons_zero, List.set_cons_succ]
      refine lp_pure (v := ?_) (by kernel_rfl) ?_ ?_
      rotate_left
      · go_simp; try with_reducible rfl
      try simp only [Act.put, List.setIfInBounds_toArray, List.set_cons_zero, List.set_cons_succ]
      refine wpList_nil ?_
      go_upto_region 23 with fail
      refine wp_region_lit ?_
      try simp only [Act.put, List.setIfInBounds_toArray, List.set_cons_zero, List.set_cons_succ]
      refine lp_pure (v := ?_) (by kernel_rfl) ?_ ?_
      rotate_left
      · go_simp; try with_reducible rfl
      try simp only [Act.put, List.setIfInBounds_toArray, List.set_cons_zero, List.set_cons_succ]
      refine lp_step (by kernel_rfl) (fun K hK => ?_)
      go_wp2_with fail
      refine Calls.mono (HGB.out w32 HK2.out) ?_
      rintro e w33 ⟨⟨v33, R33, rfl, hv, ho, hk⟩, hb⟩
      replace HK1 := Lib.hid (HK1.out.trans (hb.mono HK1.out.size))
      replace HK2 := Lib.hid (HK2.out.trans (hb.mono HK2.out.size))
      rw [F1.out] at hk
      obtain ⟨m1, m2, rfl⟩ := smL_of hk
      have HLF : Hid (LF w33 v33 (smL m1 m2)) := Lib.hid ⟨hv, ho.lnb⟩
      obtain ⟨q33, c33, rfl, _, _, _⟩ := hv
      rw [show (smL m1 m2).length = 2 from rfl] at HLF ⊢
      clear hb ho hk HGB
      refine hK _ _ ?_
      clear hK
      try simp only [Act.put, List.setIfInBounds_toArray, List.set_cons_zero, List.set_cons_succ]
      refine lp_pure (v := ?_) (by kernel_rfl) ?_ ?_
      rotate_left
      · go_simp; try with_reducible rfl
      try simp only [Act.put, List.setIfInBounds_toArray, List.set_cons_zero, List.set_cons_succ]
      refine lp_pure (v := ?_) (by kernel_rfl) ?_ ?_
      rotate_left
      · go_simp; try with_reducible rfl
      try simp only [Act.put, List.setIfInBounds_toArray, List.set_cons_zero, List.set_cons_succ]
      refine lp_pure (v := ?_) (by kernel_rfl) ?_ ?_
      rotate_left
      · go_simp; try with_reducible rfl
      try simp only [Act.put, List.setIfInBounds_toArray, List.set_cons_zero, List.set_cons_succ]
      refine lp_pure (v := ?_) (by kernel_rfl) ?_ ?_
      rotate_left
      · go_simp; try with_reducible rfl
      try simp only [Act.put, List.setIfInBounds_toArray, List.set_cons_zero, List.set_cons_succ]
      refine lp_pure (v := ?_) (by kernel_rfl) ?_ ?_
      rotate_left
      · go_simp; try with_reducible rfl
      try simp only [Act.put, List.setIfInBounds_toArray, List.set_cons_zero, List.set_cons_succ]
      refine wpList_nil ?_
      go_upto_region 24 with fail
      refine wp_region_lit ?_
      try simp only [Act.put, List.setIfInBounds_toArray, List.set_cons_zero, List.set_cons_succ]
      refine lp_pure (by kernel_rfl) (build_val 47 _ rfl #[.string pW, .bool true, .slice none 0 0] [(0, .string pW), (1, .bool true)] (by kernel_rfl) (built_eD pW)) ?_
      try simp only [Act.put, List.setIfInBounds_toArray, List.set_cons_zero, List.set_cons_succ]
      refine lp_pure (by kernel_rfl) (build_val 47 _ rfl #[.string pA, .bool true, .slice none 0 0] [(0, .string pA), (1, .bool true)] (by kernel_rfl) (built_eD pA)) ?_
      try simp only [Act.put, List.setIfInBounds_toArray, List.set_cons_zero, List.set_cons_succ]
      refine lp_step (by kernel_rfl) (fun K hK => wp_lit8 5 _ rfl tHv (by decide) (by decide) (by kernel_rfl) (hK _ _ ?_))
      try simp only [Act.put, List.setIfInBounds_toArray, List.set_cons_zero, List.set_cons_succ]
      refine lp_step (by kernel_rfl) (fun K hK => wp_convk (.tmp 163) rfl tHv 5 5 rfl (hK _ _ ?_))
      try simp only [Act.put, List.setIfInBounds_toArray, List.set_cons_zero, List.set_cons_succ]
      have HA : Hid (Below w33.heap.size w33 (w33.alloc (.cells tHv 5 (tHv.size, tHv.size + 1)))) := Lib.hid ((Below.refl _ _).alloc (Nat.le_refl _) _)
      have HBH : Hid (Bs (w33.alloc (.cells tHv 5 (tHv.size, tHv.size + 1))) (.slice (some ⟨w33.heap.size, 0, none⟩) 5 5) tH) := Lib.hid (bs_litk w33 tH tHv _ tH_eq 5 rfl)
      generalize w33.alloc (.cells tHv 5 (tHv.size, tHv.size + 1)) = w34 at *
      replace HK1 := Lib.hid (HK1.out.trans (HA.out.mono HK1.out.size))
      replace HK2 := Lib.hid (HK2.out.trans (HA.out.mono HK2.out.size))
      replace HLF := Lib.hid (HLF.out.keep HA.out)
      clear HA
      generalize w33.heap.size = gs at *
      refine lp_pure (by kernel_rfl) (build_val 47 _ rfl #[.string pAB, .bool false, .slice (some ⟨gs, 0, none⟩) 5 5] [(0, .string pAB), (2, .slice (some ⟨gs, 0, none⟩) 5 5)] (by kernel_rfl) (built_eF pAB (some ⟨gs, 0, none⟩) 5 5)) ?_
      try simp only [Act.put, List.setIfInBounds_toArray, List.set_cons_zero, List.set_cons_succ]
      refine lp_step (by kernel_rfl) (fun K hK => wp_three_en (.tmp 161) (.tmp 162) (.tmp 165) rfl (pW, true, .slice none 0 0, []) (pA, true, .slice none 0 0, []) (pAB, false, .slice (some ⟨gs, 0, none⟩) 5 5, tH) rfl rfl rfl (hK _ _ ?_))
      try simp only [Act.put, List.setIfInBounds_toArray, List.set_cons_zero, List.set_cons_succ]
      have HA : Hid (Below w34.heap.size w34 (w34.alloc (.cells (rowC [(pW, true, .slice none 0 0, []), (pA, true, .slice none 0 0, []), (pAB, false, .slice (some ⟨gs, 0, none⟩) 5 5, tH)]).toArray 47))) := Lib.hid ((Below.refl _ _).alloc (Nat.le_refl _) _)
      have HS : Hid (Sees (w34.alloc (.cells (rowC [(pW, true, .slice none 0 0, []), (pA, true, .slice none 0 0, []), (pAB, false, .slice (some ⟨gs, 0, none⟩) 5 5, tH)]).toArray 47)) (w34.alloc (.cells (rowC [(pW, true, .slice none 0 0, []), (pA, true, .slice none 0 0, []), (pAB, false, .slice (some ⟨gs, 0, none⟩) 5 5, tH)]).toArray 47)).heap.size (some ⟨w34.heap.size, 0, none⟩) (rowC (wkT (.slice (some ⟨gs, 0, none⟩) 5 5)))) := Lib.hid (Sees.of_has (Has.made' w34 47 _ _ rfl) (by simp))
      generalize w34.alloc (.cells (rowC [(pW, true, .slice none 0 0, []), (pA, true, .slice none 0 0, []), (pAB, false, .slice (some ⟨gs, 0, none⟩) 5 5, tH)]).toArray 47) = w35 at *
      replace HK1 := Lib.hid (HK1.out.trans (HA.out.mono HK1.out.size))
      replace HK2 := Lib.hid (HK2.out.trans (HA.out.mono HK2.out.size))
      replace HLF := Lib.hid (HLF.out.keep HA.out)
      replace HBH := Lib.hid (HBH.out.keep HA.out)
      clear HA
      generalize w34.heap.size = gt at *
      refine lp_pure (by kernel_rfl) (build_val 28 _ rfl #[.slice (some ⟨gt, 0, none⟩) 3 3] [(0, .slice (some ⟨gt, 0, none⟩) 3 3)] (by kernel_rfl) (built_tr (some ⟨gt, 0, none⟩) 3 3)) ?_
      try simp only [Act.put, List.setIfInBounds_toArray, List.set_cons_zero, List.set_cons_succ]
      refine wpList_alloc rfl _ rfl #[.slice none 0 0] (zTr_run w35) ?_
      try simp only [Act.put, List.setIfInBounds_toArray, List.set_cons_zero, List.set_cons_succ]
      have HZ6 := Lib.hid (Has.made w35 28 #[.slice none 0 0])
      have HA6 := Lib.hid ((Below.refl w35.heap.size w35).alloc (Nat.le_refl _) (.cells #[.slice none 0 0] 28))
      refine wpList_store_row rfl 28 (.tmp 26) (.tmp 167) rfl w35.heap.size #[.slice (some ⟨gt, 0, none⟩) 3 3] rfl rfl 28 [Value.slice none 0 0].toArray HZ6.out (by exact szTr) rfl (by kernel_rfl) ?_
      simp only [Act.put]
      have hbz : Below w35.heap.size w35 ((w35.alloc (.cells #[.slice none 0 0] 28)).setRow w35.heap.size #[.slice (some ⟨gt, 0, none⟩) 3 3]) := below_row HA6.out (Nat.le_refl _) _
      have HT : Hid (Has ((w35.alloc (.cells #[.slice none 0 0] 28)).setRow w35.heap.size #[.slice (some ⟨gt, 0, none⟩) 3 3]) w35.heap.size 28 [.slice (some ⟨gt, 0, none⟩) 3 3]) := Lib.hid (HZ6.out.rowl [_])
      generalize (w35.alloc (.cells #[.slice none 0 0] 28)).setRow w35.heap.size #[.slice (some ⟨gt, 0, none⟩) 3 3] = w36 at *
      replace HK1 := Lib.hid (HK1.out.trans (hbz.mono HK1.out.size))
      replace HK2 := Lib.hid (HK2.out.trans (hbz.mono HK2.out.size))
      replace HLF := Lib.hid (HLF.out.keep hbz)
      replace HBH := Lib.hid (HBH.out.keep hbz)
      replace HS := Lib.hid ((HS.out.keep hbz).more hbz.size)
      clear hbz HZ6 HA6
      generalize w35.heap.size = gu at *
      try simp only [Act.put, List.setIfInBounds_toArray, List.set_cons_zero, List.set_cons_succ]
      refine wpList_nil ?_
      go_upto_region 25 with fail
      have HK3 := Lib.hid (Below.refl w36.heap.size w36)
      have HOW : Hid (∀ wx, Below w36.heap.size w36 wx → Calls Tryz.prog 9 #[.agg #[.slice (some ⟨gt, 0, none⟩) 3 3]] wx fun e w' => (∃ v R, e = .returned v ∧ LnV w' v R ∧ LnO w' wx.heap.size 31 R ∧ R.map keyL = smR) ∧ Below wx.heap.size wx w') := Lib.hid fun wx h => by
        have hh := of12_any (wkT (.slice (some ⟨gs, 0, none⟩) 5 5)) (some ⟨gt, 0, none⟩) 3 wx (show 3 ≤ 1000 by decide) (Nat.le_refl 3) (fun h => by cases h) (show 5 ≤ 4611686018427387904 by decide) (fun e he => by
          rcases List.mem_cons.1 he with rfl | he
          · exact Nat.lt_of_lt_of_le (show pW.size < 10 by decide) (by omega)
          rcases List.mem_cons.1 he with rfl | he
          · exact Nat.lt_of_lt_of_le (show pA.size < 10 by decide) (by omega)
          · rw [List.mem_singleton.1 he]; exact Nat.lt_of_lt_of_le (show pAB.size < 10 by decide) (by omega)) ((HS.out.keep h).more h.size) (fun e he => by
          rcases List.mem_cons.1 he with rfl | he
          · exact Bs.nil _
          rcases List.mem_cons.1 he with rfl | he
          · exact Bs.nil _
          · rw [List.mem_singleton.1 he]; exact HBH.out.keep h) (HLX.out wx (HK1.out.trans (h.mono HK1.out.size)))
        rw [wk_of] at hh
        exact hh
      have HRS : Hid (∀ wx, Below wr.heap.size wr wx → LF wx (.slice (some ar) 2 c2) (smL n1 (.slice qn 1 cn))) := Lib.hid fun wx h => HRW.out.keep h
      have kk : ((73 : Int) == 73) = true := rfl

      refine wp_region_lit ?_
      try simp only [Act.put, List.setIfInBounds_toArray, List.set_cons_zero, List.set_cons_succ]
      refine lp_pure (v := ?_) (by kernel_rfl) ?_ ?_
      rotate_left
      · go_simp; try with_reducible rfl
      try simp only [Act.put, List.setIfInBounds_toArray, List.set_cons_zero, List.set_cons_succ]
      refine lp_pure (v := ?_) (by kernel_rfl) ?_ ?_
      rotate_left
      · go_simp; try with_reducible rfl
      try simp only [Act.put, List.setIfInBounds_toArray, List.set_cons_zero, List.set_cons_succ]
      refine lp_pure (v := ?_) (by kernel_rfl) ?_ ?_
      rotate_left
      · go_simp; try with_reducible rfl
      try simp only [Act.put, List.setIfInBounds_toArray, List.set_cons_zero, List.set_cons_succ]
      refine lp_pure (v := ?_) (by kernel_rfl) ?_ ?_
      rotate_left
      · go_simp; try with_reducible rfl
      try simp only [Act.put, List.setIfInBounds_toArray, List.set_cons_zero, List.set_cons_succ]
      refine lp_pure (v := ?_) (by kernel_rfl) ?_ ?_
      rotate_left
      · go_simp; try with_reducible rfl
      try simp only [Act.put, List.setIfInBounds_toArray, List.set_cons_zero, List.set_cons_succ]
      refine lp_pure (v := ?_) (by kernel_rfl) ?_ ?_
      rotate_left
      · go_simp; try with_reducible rfl
      try simp only [Act.put, List.setIfInBounds_toArray, List.set_cons_zero, List.set_cons_succ]
      refine lp_pure (v := ?_) (by kernel_rfl) ?_ ?_
      rotate_left
      · go_simp; try with_reducible rfl
      try simp only [Act.put, List.setIfInBounds_toArray, List.set_cons_zero, List.set_cons_succ]
      refine lp_pure (v := ?_) (by kernel_rfl) ?_ ?_
      rotate_left
      · go_simp; try with_reducible rfl
      try simp only [Act.put, List.setIfInBounds_toArray, List.set_cons_zero, List.set_cons_succ]
      refine lp_pure (v := ?_) (by kernel_rfl) ?_ ?_
      rotate_left
      · go_simp; try with_reducible rfl
      try simp only [Act.put, List.setIfInBounds_toArray, List.set_cons_zero, List.set_cons_succ]
      refine lp_pure (v := ?_) (by kernel_rfl) ?_ ?_
      rotate_left
      · go_simp; try with_reducible rfl
      try simp only [Act.put, List.setIfInBounds_toArray, List.set_cons_zero, List.set_cons_succ]
      refine lp_pure (v := ?_) (by kernel_rfl) ?_ ?_
      rotate_left
      · go_simp; try with_reducible rfl
      try simp only [Act.put, List.setIfInBounds_toArray, List.set_cons_zero, List.set_cons_succ]
      refine lp_pure (v := ?_) (by kernel_rfl) ?_ ?_
      rotate_left
      · go_simp; try with_reducible rfl
      try simp only [Act.put, List.setIfInBounds_toArray, List.set_cons_zero, List.set_cons_succ]
      refine lp_pure (v := ?_) (by kernel_rfl) ?_ ?_
      rotate_left
      · go_simp; try with_reducible rfl
      try simp only [Act.put, List.setIfInBounds_toArray, List.set_cons_zero, List.set_cons_succ]
      refine lp_pure (v := ?_) (by kernel_rfl) ?_ ?_
      rotate_left
      · go_simp; try with_reducible rfl
      try simp only [Act.put, List.setIfInBounds_toArray, List.set_cons_zero, List.set_cons_succ]
      refine lp_pure (v := ?_) (by kernel_rfl) ?_ ?_
      rotate_left
      · go_simp; try with_reducible rfl
      try simp only [Act.put, List.setIfInBounds_toArray, List.set_cons_zero, List.set_cons_succ]
      refine lp_pure (v := ?_) (by kernel_rfl) ?_ ?_
      rotate_left
      · go_simp; try with_reducible rfl
      try simp only [Act.put, List.setIfInBounds_toArray, List.set_cons_zero, List.set_cons_succ]
      refine lp_pure (v := ?_) (by kernel_rfl) ?_ ?_
      rotate_left
      · go_simp; try with_reducible rfl
      try simp only [Act.put, List.setIfInBounds_toArray, List.set_cons_zero, List.set_cons_succ]
      refine lp_pure (v := ?_) (by kernel_rfl) ?_ ?_
      rotate_left
      · go_simp; try with_reducible rfl
      try simp only [Act.put, List.setIfInBounds_toArray, List.set_cons_zero, List.set_cons_succ]
      refine lp_pure (v := ?_) (by kernel_rfl) ?_ ?_
      rotate_left
      · go_simp; try with_reducible rfl
      try simp only [Act.put, List.setIfInBounds_toArray, List.set_cons_zero, List.set_cons_succ]
      refine lp_pure (v := ?_) (by kernel_rfl) ?_ ?_
      rotate_left
      · go_simp; try with_reducible rfl
      try simp only [Act.put, List.setIfInBounds_toArray, List.set_cons_zero, List.set_cons_succ]
      refine lp_pure (v := ?_) (by kernel_rfl) ?_ ?_
      rotate_left
      · go_simp; try with_reducible rfl
      try simp only [Act.put, List.setIfInBounds_toArray, List.set_cons_zero, List.set_cons_succ]
      refine lp_pure (v := ?_) (by kernel_rfl) ?_ ?_
      rotate_left
      · go_simp; try with_reducible rfl
      try simp only [Act.put, List.setIfInBounds_toArray, List.set_cons_zero, List.set_cons_succ]
      refine lp_pure (v := ?_) (by kernel_rfl) ?_ ?_
      rotate_left
      · go_simp; try with_reducible rfl
      try simp only [Act.put, List.setIfInBounds_toArray, List.set_cons_zero, List.set_cons_succ]
      refine lp_pure (v := ?_) (by kernel_rfl) ?_ ?_
      rotate_left
      · go_simp; try with_reducible rfl
      try simp only [Act.put, List.setIfInBounds_toArray, List.set_cons_zero, List.set_cons_succ]
      refine lp_pure (v := ?_) (by kernel_rfl) ?_ ?_
      rotate_left
      · go_simp; try with_reducible rfl
      try simp only [Act.put, List.setIfInBounds_toArray, List.set_cons_zero, List.set_cons_succ]
      refine lp_pure (v := ?_) (by kernel_rfl) ?_ ?_
      rotate_left
      · go_simp; try with_reducible rfl
      try simp only [Act.put, List.setIfInBounds_toArray, List.set_cons_zero, List.set_cons_succ]
      refine lp_pure (v := ?_) (by kernel_rfl) ?_ ?_
      rotate_left
      · go_simp; try with_reducible rfl
      try simp only [Act.put, List.setIfInBounds_toArray, List.set_cons_zero, List.set_cons_succ]
      refine lp_pure (v := ?_) (by kernel_rfl) ?_ ?_
      rotate_left
      · go_simp; try with_reducible rfl
      try simp only [Act.put, List.setIfInBounds_toArray, List.set_cons_zero, List.set_cons_succ]
      refine lp_pure (v := ?_) (by kernel_rfl) ?_ ?_
      rotate_left
      · go_simp; try with_reducible rfl
      try simp only [Act.put, List.setIfInBounds_toArray, List.set_cons_zero, List.set_cons_succ]
      refine lp_pure (v := ?_) (by kernel_rfl) ?_ ?_
      rotate_left
      · go_simp; try with_reducible rfl
      try simp only [Act.put, List.setIfInBounds_toArray, List.set_cons_zero, List.set_cons_succ]
      refine lp_pure (v := ?_) (by kernel_rfl) ?_ ?_
      rotate_left
      · go_simp; try with_reducible rfl
      try simp only [Act.put, List.setIfInBounds_toArray, List.set_cons_zero, List.set_cons_succ]
      refine lp_pure (v := ?_) (by kernel_rfl) ?_ ?_
      rotate_left
      · go_simp; try with_reducible rfl
      try simp only [Act.put, List.setIfInBounds_toArray, List.set_cons_zero, List.set_cons_succ]
      refine lp_pure (v := ?_) (by kernel_rfl) ?_ ?_
      rotate_left
      · go_simp; try with_reducible rfl
      try simp only [Act.put, List.setIfInBounds_toArray, List.set_cons_zero, List.set_cons_succ]
      refine lp_pure (v := ?_) (by kernel_rfl) ?_ ?_
      rotate_left
      · go_simp; try with_reducible rfl
      try simp only [Act.put, List.setIfInBounds_toArray, List.set_cons_zero, List.set_cons_succ]
      refine lp_pure (v := ?_) (by kernel_rfl) ?_ ?_
      rotate_left
      · go_simp; try with_reducible rfl
      try simp only [Act.put, List.setIfInBounds_toArray, List.set_cons_zero, List.set_cons_succ]
      refine lp_pure (v := ?_) (by kernel_rfl) ?_ ?_
      rotate_left
      · go_simp; try with_reducible rfl
      try simp only [Act.put, List.setIfInBounds_toArray, List.set_cons_zero, List.set_cons_succ]
      refine lp_pure (v := ?_) (by kernel_rfl) ?_ ?_
      rotate_left
      · go_simp; try with_reducible rfl
      try simp only [Act.put, List.setIfInBounds_toArray, List.set_cons_zero, List.set_cons_succ]
      refine lp_pure (v := ?_) (by kernel_rfl) ?_ ?_
      rotate_left
      · go_simp; try with_reducible rfl
      try simp only [Act.put, List.setIfInBounds_toArray, List.set_cons_zero, List.set_cons_succ]
      refine lp_pure (v := ?_) (by kernel_rfl) ?_ ?_
      rotate_left
      · go_simp; try with_reducible rfl
      try simp only [Act.put, List.setIfInBounds_toArray, List.set_cons_zero, List.set_cons_succ]
      refine lp_pure (v := ?_) (by kernel_rfl) ?_ ?_
      rotate_left
      · go_simp; try with_reducible rfl
      try simp only [Act.put, List.setIfInBounds_toArray, List.set_cons_zero, List.set_cons_succ]
      refine lp_pure (v := ?_) (by kernel_rfl) ?_ ?_
      rotate_left
      · go_simp; try with_reducible rfl
      try simp only [Act.put, List.setIfInBounds_toArray, List.set_cons_zero, List.set_cons_succ]
      refine lp_step (by kernel_rfl) (fun K hK => ?_)
      go_wp2_with fail
      refine Calls.mono (rof_some (HLF.out.keep HK3.out)) ?_
      rintro e w37 ⟨⟨qa, ca, a1, a2, rfl, hla⟩, hb⟩
      have HLA := Lib.hid hla
      replace HK1 := Lib.hid (HK1.out.trans (hb.mono HK1.out.size))
      replace HK2 := Lib.hid (HK2.out.trans (hb.mono HK2.out.size))
      replace HK3 := Lib.hid (HK3.out.trans (hb.mono HK3.out.size))
      clear hb hla
      refine hK _ _ ?_
      clear hK
      try simp only [Act.put, List.setIfInBounds_toArray, List.set_cons_zero, List.set_cons_succ]
      refine lp_pure (v := ?_) (by kernel_rfl) ?_ ?_
      rotate_left
      · go_simp; try with_reducible rfl
      try simp only [Act.put, List.setIfInBounds_toArray, List.set_cons_zero, List.set_cons_succ]
      refine lp_step (by kernel_rfl) (fun K hK => ?_)
      go_wp2_with fail
      refine Calls.mono (rof_some (HRS.out _ HK1.out)) ?_
      rintro e w38 ⟨⟨qc, cc, d1, d2, rfl, hla⟩, hb⟩
      have HLC := Lib.hid hla
      replace HLA := Lib.hid (HLA.out.keep hb)
      replace HK1 := Lib.hid (HK1.out.trans (hb.mono HK1.out.size))
      replace HK2 := Lib.hid (HK2.out.trans (hb.mono HK2.out.size))
      replace HK3 := Lib.hid (HK3.out.trans (hb.mono HK3.out.size))
      clear hb hla
      refine hK _ _ ?_
      clear hK
      try simp only [Act.put, List.setIfInBounds_toArray, List.set_cons_zero, List.set_cons_succ]
      refine lp_step (by kernel_rfl) (fun K hK => ?_)
      go_wp2_with fail
      refine Calls.mono (same_some HLA.out HLC.out) ?_
      rintro e w39 ⟨rfl, hb⟩
      replace HK1 := Lib.hid (HK1.out.trans (hb.mono HK1.out.size))
      replace HK2 := Lib.hid (HK2.out.trans (hb.mono HK2.out.size))
      replace HK3 := Lib.hid (HK3.out.trans (hb.mono HK3.out.size))
      clear hb HLA HLC
      refine hK _ _ ?_
      clear hK
      try simp only [Act.put, List.setIfInBounds_toArray, List.set_cons_zero, List.set_cons_succ]
      refine lp_pure (v := ?_) (by kernel_rfl) ?_ ?_
      rotate_left
      · go_simp; try with_reducible rfl
      try simp only [Act.put, List.setIfInBounds_toArray, List.set_cons_zero, List.set_cons_succ]
      refine lp_pure (v := ?_) (by kernel_rfl) ?_ ?_
      rotate_left
      · go_simp; try with_reducible rfl
      try simp only [Act.put, List.setIfInBounds_toArray, List.set_cons_zero, List.set_cons_succ]
      refine lp_pure (v := ?_) (by kernel_rfl) ?_ ?_
      rotate_left
      · go_simp; try with_reducible rfl
      try simp only [Act.put, List.setIfInBounds_toArray, List.set_cons_zero, List.set_cons_succ]
      refine lp_step (by kernel_rfl) (fun K hK => ?_)
      go_wp2_with fail
      refine Calls.mono (HTE.out _ HK1.out) ?_
      rintro e w40 ⟨rfl, hb⟩
      replace HK1 := Lib.hid (HK1.out.trans (hb.mono HK1.out.size))
      replace HK2 := Lib.hid (HK2.out.trans (hb.mono HK2.out.size))
      replace HK3 := Lib.hid (HK3.out.trans (hb.mono HK3.out.size))
      clear hb
      refine hK _ _ ?_
      clear hK
      try simp only [Act.put, List.setIfInBounds_toArray, List.set_cons_zero, List.set_cons_succ]
      refine lp_pure (v := ?_) (by kernel_rfl) ?_ ?_
      rotate_left
      · go_simp; try with_reducible rfl
      try simp only [Act.put, List.setIfInBounds_toArray, List.set_cons_zero, List.set_cons_succ]
      have HOFB := Lib.hid (of_big (HBB.out.keep HK2.out) (by have := F0.out; omega) (HLX.out w40 HK1.out))
      refine lp_step (by kernel_rfl) (fun K hK => wp_one_bs (.tmp 217) rfl qb 73 cb rfl (hK _ _ ?_))
      try simp only [Act.put, List.setIfInBounds_toArray, List.set_cons_zero, List.set_cons_succ]
      refine lp_step (by kernel_rfl) (fun K hK => ?_)
      go_wp2_with fail
      refine Calls.mono HOFB.out ?_
      rintro e w41 ⟨rfl, _, hb⟩
      replace HK1 := Lib.hid (HK1.out.trans (hb.mono HK1.out.size))
      replace HK2 := Lib.hid (HK2.out.trans (hb.mono HK2.out.size))
      replace HK3 := Lib.hid (HK3.out.trans (hb.mono HK3.out.size))
      refine hK _ _ ?_
      clear hK hb HOFB
      try simp only [Act.put, List.setIfInBounds_toArray, List.set_cons_zero, List.set_cons_succ]
      refine lp_pure (by kernel_rfl) (eql_su 31 (.tmp 216) (.tmp 219) _ rfl (shaU bb) (shaU bb) rfl rfl elSum.2.1 gdSumZ) ?_
      try simp only [Act.put, List.setIfInBounds_toArray, List.set_cons_zero, List.set_cons_succ]
      try simp only [decide_true]
      refine lp_pure (v := ?_) (by kernel_rfl) ?_ ?_
      rotate_left
      · go_simp; try with_reducible rfl
      try simp only [Act.put, List.setIfInBounds_toArray, List.set_cons_zero, List.set_cons_succ]
      refine lp_pure (v := ?_) (by kernel_rfl) ?_ ?_
      rotate_left
      · go_simp; try with_reducible rfl
      try simp only [Act.put, List.setIfInBounds_toArray, List.set_cons_zero, List.set_cons_succ]
      refine lp_pure (v := ?_) (by kernel_rfl) ?_ ?_
      rotate_left
      · go_simp; try with_reducible rfl
      try simp only [Act.put, List.setIfInBounds_toArray, List.set_cons_zero, List.set_cons_succ]
      refine lp_step (by kernel_rfl) (fun K hK => ?_)
      go_wp2_with fail
      refine Calls.mono (HND.out _ HK1.out) ?_
      rintro e w42 ⟨⟨v42, rfl, ho⟩, hb⟩
      replace HK1 := Lib.hid (HK1.out.trans (hb.mono HK1.out.size))
      replace HK2 := Lib.hid (HK2.out.trans (hb.mono HK2.out.size))
      replace HK3 := Lib.hid (HK3.out.trans (hb.mono HK3.out.size))
      obtain ⟨q42, c42, hv42, _, _, _⟩ := ho.us
      rw [need_one] at hv42
      subst hv42
      clear hb ho
      refine hK _ _ ?_
      clear hK
      try simp only [Act.put, List.setIfInBounds_toArray, List.set_cons_zero, List.set_cons_succ]
      refine lp_pure (v := ?_) (by kernel_rfl) ?_ ?_
      rotate_left
      · go_simp; try with_reducible rfl
      try simp only [Act.put, List.setIfInBounds_toArray, List.set_cons_zero, List.set_cons_succ]
      refine lp_pure (v := ?_) (by kernel_rfl) ?_ ?_
      rotate_left
      · go_simp; try with_reducible rfl
      try simp only [Act.put, List.setIfInBounds_toArray, List.set_cons_zero, List.set_cons_succ]
      refine lp_pure (v := ?_) (by kernel_rfl) ?_ ?_
      rotate_left
      · go_simp; try with_reducible rfl
      try simp only [Act.put, List.setIfInBounds_toArray, List.set_cons_zero, List.set_cons_succ]
      refine lp_pure (v := ?_) (by kernel_rfl) ?_ ?_
      rotate_left
      · go_simp; try with_reducible rfl
      try simp only [Act.put, List.setIfInBounds_toArray, List.set_cons_zero, List.set_cons_succ]
      refine lp_pure (by kernel_rfl) (load_tr (.tmp 26) rfl gu rfl (.slice (some ⟨gt, 0, none⟩) 3 3) (HT.out.keepB HK3.out)) ?_
      try simp only [Act.put, List.setIfInBounds_toArray, List.set_cons_zero, List.set_cons_succ]
      refine lp_step (by kernel_rfl) (fun K hK => ?_)
      go_wp2_with fail
      refine Calls.mono (HOW.out _ HK3.out) ?_
      rintro e w43 ⟨⟨v43, R43, rfl, hv, ho, hk⟩, hb⟩
      replace HK1 := Lib.hid (HK1.out.trans (hb.mono HK1.out.size))
      replace HK2 := Lib.hid (HK2.out.trans (hb.mono HK2.out.size))
      replace HK3 := Lib.hid (HK3.out.trans (hb.mono HK3.out.size))
      obtain ⟨p1, p2, rfl⟩ := smL_of hk
      have HLD : Hid (LF w43 v43 (smL p1 p2)) := Lib.hid ⟨hv, ho.lnb⟩
      obtain ⟨q43, c43, rfl, _, _, _⟩ := hv
      rw [show (smL p1 p2).length = 2 from rfl] at HLD ⊢
      clear hb ho hk
      refine hK _ _ ?_
      clear hK
      try simp only [Act.put, List.setIfInBounds_toArray, List.set_cons_zero, List.set_cons_succ]
      refine lp_step (by kernel_rfl) (fun K hK => ?_)
      go_wp2_with fail
      refine Calls.mono (rof_some HLD.out) ?_
      rintro e w44 ⟨⟨qe, ce, i1, i2, rfl, hla⟩, hb⟩
      have HLE := Lib.hid hla
      replace HK1 := Lib.hid (HK1.out.trans (hb.mono HK1.out.size))
      replace HK2 := Lib.hid (HK2.out.trans (hb.mono HK2.out.size))
      replace HK3 := Lib.hid (HK3.out.trans (hb.mono HK3.out.size))
      clear hb hla
      refine hK _ _ ?_
      clear hK
      try simp only [Act.put, List.setIfInBounds_toArray, List.set_cons_zero, List.set_cons_succ]
      refine lp_pure (v := ?_) (by kernel_rfl) ?_ ?_
      rotate_left
      · go_simp; try with_reducible rfl
      try simp only [Act.put, List.setIfInBounds_toArray, List.set_cons_zero, List.set_cons_succ]
      refine lp_step (by kernel_rfl) (fun K hK => ?_)
      go_wp2_with fail
      refine Calls.mono (rof_some (HRS.out _ HK1.out)) ?_
      rintro e w45 ⟨⟨qf, cf, j1, j2, rfl, hla⟩, hb⟩
      have HLG := Lib.hid hla
      replace HLE := Lib.hid (HLE.out.keep hb)
      replace HK1 := Lib.hid (HK1.out.trans (hb.mono HK1.out.size))
      replace HK2 := Lib.hid (HK2.out.trans (hb.mono HK2.out.size))
      replace HK3 := Lib.hid (HK3.out.trans (hb.mono HK3.out.size))
      clear hb hla
      refine hK _ _ ?_
      clear hK
      try simp only [Act.put, List.setIfInBounds_toArray, List.set_cons_zero, List.set_cons_succ]
      refine lp_step (by kernel_rfl) (fun K hK => ?_)
      go_wp2_with fail
      refine Calls.mono (same_some HLE.out HLG.out) ?_
      rintro e w46 ⟨rfl, hb⟩
      replace HK1 := Lib.hid (HK1.out.trans (hb.mono HK1.out.size))
      replace HK2 := Lib.hid (HK2.out.trans (hb.mono HK2.out.size))
      replace HK3 := Lib.hid (HK3.out.trans (hb.mono HK3.out.size))
      clear hb HLE HLG
      refine hK _ _ ?_
      clear hK
      try simp only [Act.put, List.setIfInBounds_toArray, List.set_cons_zero, List.set_cons_succ]
      refine lp_pure (v := ?_) (by kernel_rfl) ?_ ?_
      rotate_left
      · go_simp; try with_reducible rfl
      try simp only [Act.put, List.setIfInBounds_toArray, List.set_cons_zero, List.set_cons_succ]
      refine lp_pure (v := ?_) (by kernel_rfl) ?_ ?_
      rotate_left
      · go_simp; try with_reducible rfl
      try simp only [Act.put, List.setIfInBounds_toArray, List.set_cons_zero, List.set_cons_succ]
      refine lp_pure (by kernel_rfl) (build_val 47 _ rfl #[.string ⟨#[]⟩, .bool false, .slice none 0 0] [] (by kernel_rfl) built_e0) ?_
      try simp only [Act.put, List.setIfInBounds_toArray, List.set_cons_zero, List.set_cons_succ]
      refine lp_step (by kernel_rfl) (fun K hK => wp_one_en (.tmp 237) rfl (⟨#[]⟩, false, .slice none 0 0, []) rfl (hK _ _ ?_))
      try simp only [Act.put, List.setIfInBounds_toArray, List.set_cons_zero, List.set_cons_succ]
      have HA : Hid (Below w46.heap.size w46 (w46.alloc (.cells (rowC [((⟨#[]⟩, false, .slice none 0 0, []) : Ent)]).toArray 47))) := Lib.hid ((Below.refl _ _).alloc (Nat.le_refl _) _)
      have HS0 : Hid (Sees (w46.alloc (.cells (rowC [((⟨#[]⟩, false, .slice none 0 0, []) : Ent)]).toArray 47)) (w46.alloc (.cells (rowC [((⟨#[]⟩, false, .slice none 0 0, []) : Ent)]).toArray 47)).heap.size (some ⟨w46.heap.size, 0, none⟩) (rowC [((⟨#[]⟩, false, .slice none 0 0, []) : Ent)])) := Lib.hid (Sees.of_has (Has.made' w46 47 _ _ rfl) (by simp))
      generalize w46.alloc (.cells (rowC [((⟨#[]⟩, false, .slice none 0 0, []) : Ent)]).toArray 47) = w47 at *
      replace HK1 := Lib.hid (HK1.out.trans (HA.out.mono HK1.out.size))
      clear HA HK2 HK3
      generalize w46.heap.size = gx at *
      have HO0 := Lib.hid (of12_any [((⟨#[]⟩, false, .slice none 0 0, []) : Ent)] (some ⟨gx, 0, none⟩) 1 w47 (show 1 ≤ 1000 by decide) (Nat.le_refl 1) (fun h => by cases h) (show 0 ≤ 4611686018427387904 by decide) (fun e he => by rw [List.mem_singleton.1 he]; exact Nat.lt_of_lt_of_le (show (⟨#[]⟩ : ByteArray).size < 10 by decide) (by omega)) HS0.out (fun e he => by rw [List.mem_singleton.1 he]; exact Bs.nil _) (HLX.out w47 HK1.out))
      rw [of_empty] at HO0

      refine lp_pure (by kernel_rfl) (build_val 28 _ rfl #[.slice (some ⟨gx, 0, none⟩) 1 1] [(0, .slice (some ⟨gx, 0, none⟩) 1 1)] (by kernel_rfl) (built_tr (some ⟨gx, 0, none⟩) 1 1)) ?_
      try simp only [Act.put, List.setIfInBounds_toArray, List.set_cons_zero, List.set_cons_succ]
      refine lp_step (by kernel_rfl) (fun K hK => ?_)
      go_wp2_with fail
      refine Calls.mono (HO0.out) ?_
      rintro e w48 ⟨⟨v48, R48, rfl, hv, ho, hk⟩, hb⟩
      replace HK1 := Lib.hid (HK1.out.trans (hb.mono HK1.out.size))
      have hr0 : R48 = [] := List.map_eq_nil_iff.1 hk
      subst hr0
      obtain ⟨q48, c48, rfl, _, _, _⟩ := hv
      rw [show ([] : List Ln).length = 0 from rfl]
      clear hb ho hk
      refine hK _ _ ?_
      clear hK
      try simp only [Act.put, List.setIfInBounds_toArray, List.set_cons_zero, List.set_cons_succ]
      refine lp_pure (v := ?_) (by kernel_rfl) ?_ ?_
      rotate_left
      · go_simp; try with_reducible rfl
      try simp only [Act.put, List.setIfInBounds_toArray, List.set_cons_zero, List.set_cons_succ]
      refine lp_pure (v := ?_) (by kernel_rfl) ?_ ?_
      rotate_left
      · go_simp; try with_reducible rfl
      try simp only [Act.put, List.setIfInBounds_toArray, List.set_cons_zero, List.set_cons_succ]
      refine lp_pure (v := ?_) (by kernel_rfl) ?_ ?_
      rotate_left
      · go_simp; try with_reducible rfl
      try simp only [Act.put, List.setIfInBounds_toArray, List.set_cons_zero, List.set_cons_succ]
      refine lp_pure (v := ?_) (by kernel_rfl) ?_ ?_
      rotate_left
      · go_simp; try with_reducible rfl
      try simp only [Act.put, List.setIfInBounds_toArray, List.set_cons_zero, List.set_cons_succ]
      refine lp_pure (v := ?_) (by kernel_rfl) ?_ ?_
      rotate_left
      · go_simp; try with_reducible rfl
      try simp only [Act.put, List.setIfInBounds_toArray, List.set_cons_zero, List.set_cons_succ]
      refine lp_pure (v := ?_) (by kernel_rfl) ?_ ?_
      rotate_left
      · go_simp; try with_reducible rfl
      try simp only [Act.put, List.setIfInBounds_toArray, List.set_cons_zero, List.set_cons_succ]
      refine lp_pure (v := ?_) (by kernel_rfl) ?_ ?_
      rotate_left
      · go_simp; try with_reducible rfl
      try simp only [Act.put, List.setIfInBounds_toArray, List.set_cons_zero, List.set_cons_succ]
      refine lp_pure (v := ?_) (by kernel_rfl) ?_ ?_
      rotate_left
      · go_simp; try with_reducible rfl
      try simp only [Act.put, List.setIfInBounds_toArray, List.set_cons_zero, List.set_cons_succ]
      refine lp_pure (v := ?_) (by kernel_rfl) ?_ ?_
      rotate_left
      · go_simp; try with_reducible rfl
      try simp only [Act.put, List.setIfInBounds_toArray, List.set_cons_zero, List.set_cons_succ]
      refine wpList_nil ?_
      go_wp2_with fail
      go_ret
      exact ⟨rfl, HBW.out.trans (HK1.out.mono HBW.out.size)⟩
end Go.Proofs.YtmjonlffhhehjaaGreatDoor
namespace Go.Proofs.YtmjonlffhhehjaaGreatDoor
open Go.ChangeShapes Go.WideShapes Go.ChangeAt Go.RowKit Go.ChangeMaps
set_option maxRecDepth 100000 in
theorem recipeKnown_lifted (os : Os) (started : os.Started) (H : Type) (enc : TypeId × Value → H) :
    ReturnsInHanded {} Tryz.checked os 3 .any (fun w args => (Rows.recipeKnownSpec.pre enc Tryz.prog Tryz.f3 [] false w args ∧ laidMetH Tryz.prog laidVars w) ∧ sizedMet enc Tryz.prog Tryz.f3 (OpenSpec.ofChange Rows.recipeKnownSpec) false w args)
      (Rows.recipeKnownSpec.post enc Tryz.prog Tryz.f3 false true false false) := by
  refine returnsInHanded_of_change_and (C := Tryz.checked) (X := fun w _ => laidMetH Tryz.prog laidVars w) (fun _ _ _ hh h => h.of_heap hh) own started (by kernel_rfl) Tryz.func3
    (ChangeSpec.witness_shaped (enc := enc) (C := Tryz.checked) (os := os) (X := fun w _ => laidMetH Tryz.prog laidVars w) false (World.laidAll Tryz.prog os laidVars) #[] 8 (World.laidAll_os _ _ _) (World.shaped_of_ZipB (by kernel_rfl) (by kernel_rfl)) (by kernel_rfl) (by kernel_rfl) (by kernel_rfl) (laid_met os _)) ?_
  intro W base args ds gs before hval0 hW _ _ hL _
  have hval : ∀ (j : Nat) t v, Tryz.f3.params[j]? = some t → args[j]? = some v → Value.okWide Tryz.prog W .any base t v := hval0
  have hW' := hW
  obtain ⟨p, q, hA0, hV, rfl, hfz, hnd⟩ := hW
  have hA : DataW.TrodAll enc Tryz.prog W 0 (fun _ => true) true Tryz.f3.params.toList args.toList ds p := hA0
  rw [Tryz.params3] at hA hval
  obtain ⟨h1, rfl, rfl⟩ := trodAll_nil hA
  obtain rfl : args = #[] := by cases args; simp_all
  obtain ⟨rfl, rfl⟩ := trodVars_none hV
  clear hA0 hval0
  refine (recipeKnown_any W (of_laid hL)).mono fun e W' ⟨he, bel⟩ => ?_
  subst he
  exact ⟨_, rfl, _, _, _, [], _, [], hW', trodAll_mk1 (shut_bool Tryz.underlying4 _), trodAll_mk0, rfl, bel.frame _, fun h => by cases h⟩
theorem recipeKnown_row : Rows.RecipeKnownSaid :=
  OpenClaim.holds_of_wide 3 Tryz.f3 rfl rfl rfl rfl rfl rfl rfl ⟨rfl, rfl, rfl, rfl, rfl⟩ rfl rfl rfl rfl rfl (by kernel_rfl) Tryz.func3 (by kernel_rfl)
    (of_decide_eq_true (by kernel_rfl)) (by unfold Func.isWrapper; first | (rw [if_pos (by decide +kernel)]; kernel_rfl) | (rw [if_neg (by decide +kernel)]; exact ⟨rfl, rfl⟩))
    (fun os started H enc _ => recipeKnown_lifted os started H enc)
theorem recipeKnown_holds : Rows.RecipeKnownCardSaid :=
  Claim7.holds_tied_plain_at .later [] [.data, .data, .data, .pinned] true Rows.recipeKnownCard.stood.harness Rows.recipeKnownCard.stood.looks
    recipeKnown_row (fun _ h => by cases h) (by kernel_rfl) (fun _ h => by cases h) recipeKnown_row_tie rfl ⟨rfl, rfl⟩ (by kernel_rfl) rfl
    (fun f fn hf hfn => by
      obtain rfl : f = 3 := Option.some.inj ((show Tryz.prog.funcNamed "tallyman/tallymanlaw12.RecipeKnown" = some 3 by kernel_rfl).symm.trans hf) |>.symm
      obtain rfl : fn = Tryz.f3 := (Option.some.inj (Tryz.func3.symm.trans hfn)).symm
      exact ⟨by kernel_rfl, fun j t ht => by
        rw [Tryz.params3] at ht
        simp at ht⟩)
    (by kernel_rfl)
#print axioms recipeKnown_holds
end Go.Proofs.YtmjonlffhhehjaaGreatDoor
