/- The walk of the law NumSays: it returns true. Condition: the arguments read as lists of bytes and numbers of 64 bits. -/
import Derived.Test.YtgaphplndpdhaaaRfold
import Derived.Test.YtgaphplndpdhaaaAwake
import Derived.Test.YtgaphplndpdhaaaOrg
namespace Go.Proofs.Ytgaphplndpdhaaa
open Go.RowKit
theorem str_ext {w : World} {x : List (BitVec 8)} {q : Option Addr} (c : Nat) (hs : Sees w w.heap.size q (x.map u8v)) (w' : World) (h : Ext w w') :
    (convert 23 9 (.slice q x.length c)).run Try.prog w' = .ok (.string (strB x)) w' := str_run x q c _ w' (hs.keep h)
noncomputable def opsN : Array Oper := regOf Try.f4.body 9
set_option maxRecDepth 100000 in
theorem chkN : orgB [(0, true), (1, true), (4, true), (5, true), (2, false), (3, true), (6, false), (7, true), (8, true), (9, true), (10, true), (12, true), (11, false), (13, false), (14, true), (15, true), (16, true), (17, true), (18, true), (19, true), (20, true), (21, true), (22, true), (23, true), (24, true), (25, true), (26, true), (27, true), (28, true), (29, true), (30, true), (31, true), (32, true), (33, true), (34, true), (37, true), (38, true), (35, false), (36, true), (39, false), (40, true), (41, true), (42, true), (43, true), (44, true), (45, true), (46, true), (47, true), (48, true), (49, true), (50, true), (51, true), (52, true), (53, true), (54, true), (55, true), (56, true), (57, true), (58, true), (59, true), (60, true), (61, true), (63, true), (62, false), (64, false), (65, true), (66, true), (67, true), (68, true), (70, true), (69, false), (71, false), (72, true), (73, true), (74, true)] opsN = true := by kernel_rfl
set_option maxHeartbeats 8000000 in
set_option maxRecDepth 100000 in
theorem nsays_any (x : List (BitVec 8)) (q : Option Addr) (c : Nat) (y : List (BitVec 8)) (p : Option Addr) (d : Nat) (v : Nat) (z most : Int) (w : World)
    (hx : Sees w w.heap.size q (x.map u8v)) (hxc : x.length ≤ c) (hxq : q = none → c = 0) (hxm : x.length ≤ maxLen)
    (hy : Sees w w.heap.size p (y.map u8v)) (hyq : p = none → d = 0) (hym : y.length ≤ maxLen)
    (hv : v < 18446744073709551616) (hz0 : -9223372036854775808 ≤ z) (hz1 : z ≤ 9223372036854775807) (hm0 : -9223372036854775808 ≤ most) (hm1 : most ≤ 9223372036854775807) :
    Calls Try.prog 4 #[.slice q x.length c, .slice p y.length d, .int .u64 (v : Int), .int .i64 z, .int .i64 most] w fun e w' => e = .returned (.bool true) ∧ Below w.heap.size w w' := by
  unfold maxLen at hxm hym
  have HA := Lib.hid (awake_any w)
  by_cases hbig : 1000 < x.length
  · have k1 : (1000 : Int) < (x.length : Int) := by omega
    clear hx hxc hxq hy hyq hbig
    go_enter Try.func4, Try.ntmps4
    go_wp2_with ((with_reducible refine HA.out.mono ?_); rintro e w1 ⟨rfl, hb1⟩)
    go_ret
    exact ⟨rfl, hb1⟩
  have k1 : ¬ (1000 : Int) < (x.length : Int) := by omega
  by_cases hbig2 : 1000 < y.length
  · have k2 : (1000 : Int) < (y.length : Int) := by omega
    clear hx hxc hxq hy hyq hbig hbig2
    go_enter Try.func4, Try.ntmps4
    go_wp2_with ((with_reducible refine HA.out.mono ?_); rintro e w1 ⟨rfl, hb1⟩)
    go_ret
    exact ⟨rfl, hb1⟩
  have k2 : ¬ (1000 : Int) < (y.length : Int) := by omega
  have hxl : x.length ≤ 1000 := by omega
  have hyl : y.length ≤ 1000 := by omega
  have hS : ∀ w1, Below w.heap.size w w1 → Sees w1 w1.heap.size q (x.map u8v) := fun w1 h => (hx.keep h).more h.size
  have hT : ∀ w1, Below w.heap.size w w1 → Sees w1 w1.heap.size p (y.map u8v) := fun w1 h => (hy.keep h).more h.size
  have G1 : ∀ w1, Below w.heap.size w w1 → Calls Try.prog 9 #[.slice q x.length c] w1 fun e w' => e = .returned (tri (getL x)) ∧ w1 = w' := fun w1 h => get_any x q c w1 (hS w1 h) (by omega)
  have G2 : ∀ w1, Below w.heap.size w w1 → Calls Try.prog 14 #[.slice q x.length c] w1 fun e w' => e = .returned (tri (getL x)) ∧ w1 = w' := fun w1 h => rget_any x q c w1 (hS w1 h) (by omega)
  have G3 : ∀ w1, Below w.heap.size w w1 → Calls Try.prog 10 #[.slice q x.length c, .int .i64 most] w1 (GaveB w1 (gbL x most)) := fun w1 h => getBytes_any x q c most w1 (hS w1 h) hxc hxq (by omega) hm0 hm1
  have G4 : ∀ w1, Below w.heap.size w w1 → Calls Try.prog 15 #[.slice q x.length c, .int .i64 most] w1 (GaveB w1 (gbL x most)) := fun w1 h => rgetBytes_any x q c most w1 (hS w1 h) hxc hxq (by omega) hm0 hm1
  have P1 : ∀ w1, Below w.heap.size w w1 → Calls Try.prog 8 #[.slice q x.length c, .int .u64 (v : Int)] w1 (Gives w1 (x ++ digs v)) := fun w1 h => put_any x q c v w1 (hS w1 h) hxq (by omega) hv
  have P2 : ∀ w1, Below w.heap.size w w1 → Calls Try.prog 16 #[.slice q x.length c, .int .u64 (v : Int)] w1 (Gives w1 (x ++ digs v)) := fun w1 h => rput_gives x q c v w1 (hS w1 h) hxq (by omega) hv
  have P3 : ∀ w1, Calls Try.prog 16 #[.slice none 0 0, .int .u64 (v : Int)] w1 (Gives w1 (digs v)) := fun w1 => by
    have := rput_gives [] none 0 v w1 (Sees.nil _ _ _) (fun _ => rfl) (by simp) hv
    rw [List.nil_append] at this; exact this
  have P4 : ∀ w1, Below w.heap.size w w1 → Calls Try.prog 17 #[.slice q x.length c, .slice p y.length d] w1 (Gives w1 (x ++ digs y.length ++ y)) := fun w1 h => putBytes_any x q c y p d w1 (hS w1 h) hxq (by omega) (hT w1 h) hyq (by omega)
  have P5 : ∀ w1, Below w.heap.size w w1 → Calls Try.prog 18 #[.slice q x.length c, .slice p y.length d] w1 (Gives w1 (x ++ digs y.length ++ y)) := fun w1 h => rputBytes_any x q c y p d w1 (hS w1 h) hxq (by omega) (hT w1 h) hyq (by omega)
  have Z1 := fun w1 => size_any v w1 hv
  have F1 := fun w1 => fold_any z w1 hz0 hz1
  have F2 := fun w1 => rfold_any z w1 hz0 hz1
  have F3 := fun w1 => open_any v w1 hv
  have F4 := fun w1 => runfold_any v w1 hv
  unfold tri at G1 G2
  generalize (getL x).1 = g1 at G1 G2
  generalize (getL x).2.1 = g2 at G1 G2
  generalize (getL x).2.2 = g3 at G1 G2
  generalize gbL x most = R at G3 G4
  obtain ⟨R1, R2, R3⟩ := R
  generalize x ++ digs v = A1 at P1 P2
  generalize x ++ digs y.length ++ y = A2 at P4 P5
  generalize digs v = D at P3 Z1
  generalize foldI z = fz at F1 F2
  generalize openI v = ov at F3 F4
  replace G1 := Lib.hid G1
  replace G2 := Lib.hid G2
  replace G3 := Lib.hid G3
  replace G4 := Lib.hid G4
  replace P1 := Lib.hid P1
  replace P2 := Lib.hid P2
  replace P3 := Lib.hid P3
  replace P4 := Lib.hid P4
  replace P5 := Lib.hid P5
  replace Z1 := Lib.hid Z1
  replace F1 := Lib.hid F1
  replace F2 := Lib.hid F2
  replace F3 := Lib.hid F3
  replace F4 := Lib.hid F4
  clear hx hxq hxc hy hyq hbig hbig2 hxm hym hS hT
  go_enter Try.func4, Try.ntmps4
  go_wp2_with fail
  refine HA.out.mono ?_
  rintro e w1 ⟨rfl, hb1⟩
  have HB1 := Lib.hid hb1
  clear hb1 HA
  go_wp2_with fail
  refine (G1.out _ HB1.out).mono ?_
  rintro e w2 ⟨rfl, rfl⟩
  go_wp2_with fail
  refine (G2.out _ HB1.out).mono ?_
  rintro e w2 ⟨rfl, rfl⟩
  go_wp2_with fail
  refine (G3.out _ HB1.out).mono ?_
  rintro e w3 ⟨s, rfl, ⟨q3, c3, rfl, hc3, hq3, hs3⟩, hb3⟩
  have HB3 := Lib.hid (HB1.out.trans (hb3.mono HB1.out.size))
  have HS3 := Lib.hid hs3
  clear hc3 hq3 hs3 hb3 HB1 G1 G2 G3
  go_wp2_with fail
  refine (G4.out _ HB3.out).mono ?_
  rintro e w4 ⟨s, rfl, ⟨q4, c4, rfl, hc4, hq4, hs4⟩, hb4⟩
  have HB4 := Lib.hid (HB3.out.trans (hb4.mono HB3.out.size))
  have HS3' := Lib.hid ((HS3.out.keep hb4).more hb4.size)
  have HS4 := Lib.hid hs4
  clear hc4 hq4 hs4 hb4 HB3 HS3 G4
  go_wp2_with fail
  try simp only [List.append_eq, List.cons_append, List.nil_append]
  refine wp_region_orgc [(0, true), (1, true), (4, true), (5, true), (2, false), (3, true), (6, false), (7, true), (8, true), (9, true), (10, true), (12, true), (11, false), (13, false), (14, true), (15, true), (16, true), (17, true), (18, true), (19, true), (20, true), (21, true), (22, true), (23, true), (24, true), (25, true), (26, true), (27, true), (28, true), (29, true), (30, true), (31, true), (32, true), (33, true), (34, true), (37, true), (38, true), (35, false), (36, true), (39, false), (40, true), (41, true), (42, true), (43, true), (44, true), (45, true), (46, true), (47, true), (48, true), (49, true), (50, true), (51, true), (52, true), (53, true), (54, true), (55, true), (56, true), (57, true), (58, true), (59, true), (60, true), (61, true), (63, true), (62, false), (64, false), (65, true), (66, true), (67, true), (68, true), (70, true), (69, false), (71, false), (72, true), (73, true), (74, true)] opsN chkN (by kernel_rfl) (by kernel_rfl) (by kernel_rfl) ?_
  simp only [pickOrs, List.getElem?_cons_zero, List.getElem?_cons_succ]
  have HB5 : Hid (Below w.heap.size w w4.drew) := Lib.hid HB4.out.drew
  have E4 : Hid (Ext w4 w4.drew) := Lib.hid (Below.refl _ _).drew
  generalize w4.drew = w5 at *

  (repeat (first
    | (refine org_pure (v := ?_) (by rfl) ?_ ?_; rotate_left; (· intro w' hw; go_simp; try with_reducible rfl); try simp only [Act.put, List.setIfInBounds_toArray, List.set_cons_zero, List.set_cons_succ])
    | (refine org_skip (by rfl) ?_; try simp only [Act.put, List.setIfInBounds_toArray, List.set_cons_zero, List.set_cons_succ])))
  refine org_step (by rfl) (fun K hK => ?_)
  go_wp2_with fail
  refine (P1.out w5 HB5.out).mono ?_
  rintro e w6 ⟨s6, rfl, ⟨q6, c6, rfl, _, _, hs6⟩, hb6⟩
  have HB6 := Lib.hid (HB5.out.trans (hb6.mono HB5.out.size))
  have E6 : Hid (Ext w5 w6) := Lib.hid hb6
  have S6 := Lib.hid (str_ext c6 hs6)
  clear hb6 hs6
  go_wp2_with fail
  refine ⟨E6.out, ?_⟩
  try simp only [Act.put, List.setIfInBounds_toArray, List.set_cons_zero, List.set_cons_succ]
  have kA : ((strB A1).toList == (strB A1).toList) = true := by simp
  have kB : ((strB A2).toList == (strB A2).toList) = true := by simp
  have kR : ((strB R1).toList == (strB R1).toList) = true := by simp
  have kD : ((D.length : Int) == (D.length : Int)) = true := by simp
  have k3 : ((g1 : Int) == (g1 : Int)) = true := by simp
  have k4 : ((g2 : Int) == (g2 : Int)) = true := by simp
  have k5 : ((g3 : Int) == (g3 : Int)) = true := by simp
  have k6 : ((R2 : Int) == (R2 : Int)) = true := by simp
  have k7 : ((R3 : Int) == (R3 : Int)) = true := by simp
  have k8 : (fz == fz) = true := by simp
  have k9 : (ov == ov) = true := by simp
  (repeat (first
    | (refine org_pure (v := ?_) (by rfl) ?_ ?_; rotate_left; (· intro w' hw; have u := S6.out w' hw; go_simp; try with_reducible rfl); try simp only [Act.put, List.setIfInBounds_toArray, List.set_cons_zero, List.set_cons_succ])
    | (refine org_skip (by rfl) ?_; try simp only [Act.put, List.setIfInBounds_toArray, List.set_cons_zero, List.set_cons_succ])))
  refine org_step (by rfl) (fun K hK => ?_)
  go_wp2_with fail
  refine (P2.out w6 HB6.out).mono ?_
  rintro e w7 ⟨s7, rfl, ⟨q7, c7, rfl, _, _, hs7⟩, hb7⟩
  have HB7 := Lib.hid (HB6.out.trans (hb7.mono HB6.out.size))
  have E7 : Hid (Ext w6 w7) := Lib.hid hb7
  have S7 := Lib.hid (str_ext c7 hs7)
  clear hb7 hs7
  go_wp2_with fail
  refine ⟨E7.out, ?_⟩
  try simp only [Act.put, List.setIfInBounds_toArray, List.set_cons_zero, List.set_cons_succ]
  (repeat (first
    | (refine org_pure (v := ?_) (by rfl) ?_ ?_; rotate_left; (· intro w' hw; have u := S7.out w' hw; go_simp; try with_reducible rfl); try simp only [Act.put, List.setIfInBounds_toArray, List.set_cons_zero, List.set_cons_succ])
    | (refine org_skip (by rfl) ?_; try simp only [Act.put, List.setIfInBounds_toArray, List.set_cons_zero, List.set_cons_succ])))
  refine org_step (by rfl) (fun K hK => ?_)
  go_wp2_with fail
  refine (Z1.out _).mono ?_
  rintro e w' ⟨rfl, rfl⟩
  go_wp2_with fail
  refine ⟨Ext.refl _, ?_⟩
  try simp only [Act.put, List.setIfInBounds_toArray, List.set_cons_zero, List.set_cons_succ]
  refine org_step (by rfl) (fun K hK => ?_)
  go_wp2_with fail
  refine (P3.out w7).mono ?_
  rintro e w8 ⟨s8, rfl, ⟨q8, c8, rfl, _, _, hs8⟩, hb8⟩
  have HB8 := Lib.hid (HB7.out.trans (hb8.mono HB7.out.size))
  have E8 : Hid (Ext w7 w8) := Lib.hid hb8
  have S8 := Lib.hid (str_ext c8 hs8)
  clear hb8 hs8
  go_wp2_with fail
  refine ⟨E8.out, ?_⟩
  try simp only [Act.put, List.setIfInBounds_toArray, List.set_cons_zero, List.set_cons_succ]
  (repeat (first
    | (refine org_pure (v := ?_) (by rfl) ?_ ?_; rotate_left; (· intro w' hw; go_simp; try with_reducible rfl); try simp only [Act.put, List.setIfInBounds_toArray, List.set_cons_zero, List.set_cons_succ])
    | (refine org_skip (by rfl) ?_; try simp only [Act.put, List.setIfInBounds_toArray, List.set_cons_zero, List.set_cons_succ])))
  refine org_step (by rfl) (fun K hK => ?_)
  go_wp2_with fail
  refine (P4.out w8 HB8.out).mono ?_
  rintro e w9 ⟨s9, rfl, ⟨q9, c9, rfl, _, _, hs9⟩, hb9⟩
  have HB9 := Lib.hid (HB8.out.trans (hb9.mono HB8.out.size))
  have E9 : Hid (Ext w8 w9) := Lib.hid hb9
  have S9 := Lib.hid (str_ext c9 hs9)
  clear hb9 hs9
  go_wp2_with fail
  refine ⟨E9.out, ?_⟩
  try simp only [Act.put, List.setIfInBounds_toArray, List.set_cons_zero, List.set_cons_succ]
  (repeat (first
    | (refine org_pure (v := ?_) (by rfl) ?_ ?_; rotate_left; (· intro w' hw; have u := S9.out w' hw; go_simp; try with_reducible rfl); try simp only [Act.put, List.setIfInBounds_toArray, List.set_cons_zero, List.set_cons_succ])
    | (refine org_skip (by rfl) ?_; try simp only [Act.put, List.setIfInBounds_toArray, List.set_cons_zero, List.set_cons_succ])))
  refine org_step (by rfl) (fun K hK => ?_)
  go_wp2_with fail
  refine (P5.out w9 HB9.out).mono ?_
  rintro e w10 ⟨s10, rfl, ⟨q10, c10, rfl, _, _, hs10⟩, hb10⟩
  have HB10 := Lib.hid (HB9.out.trans (hb10.mono HB9.out.size))
  have E10 : Hid (Ext w9 w10) := Lib.hid hb10
  have S10 := Lib.hid (str_ext c10 hs10)
  clear hb10 hs10
  go_wp2_with fail
  refine ⟨E10.out, ?_⟩
  try simp only [Act.put, List.setIfInBounds_toArray, List.set_cons_zero, List.set_cons_succ]
  have EA := Lib.hid (((((E4.out.trans E6.out).trans E7.out).trans E8.out).trans E9.out).trans E10.out)
  have SR3 := Lib.hid (fun w' hw => str_ext c3 HS3'.out w' (EA.out.trans hw))
  have SR4 := Lib.hid (fun w' hw => str_ext c4 HS4.out w' (EA.out.trans hw))
  (repeat (first
    | (refine org_pure (v := ?_) (by rfl) ?_ ?_; rotate_left; (· intro w' hw; have u := S10.out w' hw; have u3 := SR3.out w' hw; have u4 := SR4.out w' hw; go_simp; try with_reducible rfl); try simp only [Act.put, List.setIfInBounds_toArray, List.set_cons_zero, List.set_cons_succ])
    | (refine org_skip (by rfl) ?_; try simp only [Act.put, List.setIfInBounds_toArray, List.set_cons_zero, List.set_cons_succ])))
  refine org_step (by rfl) (fun K hK => ?_)
  go_wp2_with fail
  refine (F1.out _).mono ?_
  rintro e w' ⟨rfl, rfl⟩
  go_wp2_with fail
  refine ⟨Ext.refl _, ?_⟩
  try simp only [Act.put, List.setIfInBounds_toArray, List.set_cons_zero, List.set_cons_succ]
  refine org_step (by rfl) (fun K hK => ?_)
  go_wp2_with fail
  refine (F2.out _).mono ?_
  rintro e w' ⟨rfl, rfl⟩
  go_wp2_with fail
  refine ⟨Ext.refl _, ?_⟩
  try simp only [Act.put, List.setIfInBounds_toArray, List.set_cons_zero, List.set_cons_succ]
  (repeat (first
    | (refine org_pure (v := ?_) (by rfl) ?_ ?_; rotate_left; (· intro w' hw; go_simp; try with_reducible rfl); try simp only [Act.put, List.setIfInBounds_toArray, List.set_cons_zero, List.set_cons_succ])
    | (refine org_skip (by rfl) ?_; try simp only [Act.put, List.setIfInBounds_toArray, List.set_cons_zero, List.set_cons_succ])))
  refine org_step (by rfl) (fun K hK => ?_)
  go_wp2_with fail
  refine (F3.out _).mono ?_
  rintro e w' ⟨rfl, rfl⟩
  go_wp2_with fail
  refine ⟨Ext.refl _, ?_⟩
  try simp only [Act.put, List.setIfInBounds_toArray, List.set_cons_zero, List.set_cons_succ]
  refine org_step (by rfl) (fun K hK => ?_)
  go_wp2_with fail
  refine (F4.out _).mono ?_
  rintro e w' ⟨rfl, rfl⟩
  go_wp2_with fail
  refine ⟨Ext.refl _, ?_⟩
  try simp only [Act.put, List.setIfInBounds_toArray, List.set_cons_zero, List.set_cons_succ]
  (repeat (first
    | (refine org_pure (v := ?_) (by rfl) ?_ ?_; rotate_left; (· intro w' hw; go_simp; try with_reducible rfl); try simp only [Act.put, List.setIfInBounds_toArray, List.set_cons_zero, List.set_cons_succ])
    | (refine org_skip (by rfl) ?_; try simp only [Act.put, List.setIfInBounds_toArray, List.set_cons_zero, List.set_cons_succ])))
  refine org_nil ?_
  go_wp2_with fail
  go_ret
  exact ⟨rfl, HB10.out⟩
end Go.Proofs.Ytgaphplndpdhaaa
