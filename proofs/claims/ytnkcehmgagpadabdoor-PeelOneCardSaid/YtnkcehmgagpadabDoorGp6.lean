/- Contracts: package table's Zero, Count, with slices.IndexFunc and ContainsFunc over cells. Condition: at most 10^6 cells. -/
import Derived.Test.YtnkcehmgagpadabDoorSq
import Derived.Test.YtnkcehmgagpadabDoorGp4
import Derived.Test.YtnkcehmgagpadabDoorGp2
namespace Go.Proofs.YtnkcehmgagpadabDoor
open Go.RowKit
def idxZ : List Ce → Nat → Int
 | [], _ => -1
 | c :: L, k => if c = zC then idxZ L (k + 1) else (k : Int)
theorem idxZ_ge : ∀ (L : List Ce) (k : Nat), decide (idxZ L k ≥ (0 : Int)) = !(L.all fun c => decide (c = zC))
 | [], _ => rfl
 | c :: L, k => by
  unfold idxZ
  by_cases h : c = zC
  ·rw [if_pos h, idxZ_ge L (k + 1)]; simp [h]
  ·rw [if_neg h]; simp [h]
theorem idxZ_step (L : List Ce) (k : Nat) (h : k < L.length) : idxZ (L.drop k) k = if L[k] = zC then idxZ (L.drop (k + 1)) (k + 1) else (k : Int) := by
 rw [List.drop_eq_getElem_cons h]; rfl
theorem zeroT_eq (L : List Ce) (h : goodN (L.length : Int) = true) : (!decide (idxZ L 0 ≥ (0 : Int))) = zeroT L := by
 rw [idxZ_ge]; unfold zeroT; rw [h]; simp
theorem Cs.head {w : World} {q : Option Addr} {c : Nat} {L : List Ce} (h : Cs w (.slice q L.length c) L) (k : Nat) (hk : k ≤ L.length) : Cs w (.slice q k c) (L.take k) := by
 obtain ⟨q', c', he, h2, h3, h4⟩ := h
 simp only [Value.slice.injEq, true_and] at he
 obtain ⟨rfl, rfl⟩ := he
 have hl : (L.take k).length = k := by rw [List.length_take]; omega
 refine ⟨q, c, by rw [hl], by rw [hl]; omega, h3, fun h0 => ?_⟩
 obtain ⟨a, rfl, h5, h6⟩ := h4.get (by rw [rowC_len, hl] at h0; rw [rowC_len]; omega)
 refine ⟨a, rfl, h5, fun j u hj => h6 j u ?_⟩
 rw [← rowC_take] at hj
 rw [List.getElem?_take] at hj
 split at hj
 ·exact hj
 ·cases hj
def waitTz11 (i : Nat) : List Nat := ([[], [0], [1], [2]] : List (List Nat)).getD i []
def slotsTz11 : List (Nat × Nat) := [(3, 0), (4, 1), (5, 2), (2, 3)]
theorem sbTz11 : slotsB slotsTz11 = true := by kernel_rfl
theorem chkTz11 : flwO slotsTz11 waitTz11 4 (regOf Tryd.f61.body 1) = true := by kernel_rfl
set_option maxHeartbeats 8000000 in
set_option maxRecDepth 100000 in
theorem zero1_b (c : Ce) (w w0 : World) (hB : Below w.heap.size w w0) : Calls Tryd.prog 61 #[aggC c] w0 fun e w' => (∃ v, e = .returned v ∧ v = .bool (!decide (c = zC))) ∧ Below w.heap.size w w' := by
 go_enter Tryd.func61, Tryd.ntmps61
 have HB := Lib.hid hB
 clear hB
 go_upto_region 0 with fail
 refine wp_region_lit ?_
 try simp only [Act.put, List.setIfInBounds_toArray, List.set_cons_zero, List.set_cons_succ]
 refine lp_step rfl (fun K hK => wp_box_row 76 (.tmp 0) rfl (aggC c) rfl (hK _ _ ?_))
 try simp only [Act.put, List.setIfInBounds_toArray, List.set_cons_zero, List.set_cons_succ]
 show wpList _ _ _ _ _ (w0.alloc (.cells (encC c).toArray 76))
 have HST : Hid (Below w0.heap.size w0 (w0.alloc (.cells (encC c).toArray 76))) := Lib.hid ((Below.refl _ _).alloc (Nat.le_refl _) _)
 have HX1 : Hid (Has (w0.alloc (.cells (encC c).toArray 76)) w0.heap.size 76 (encC c)) := Lib.hid (Has.made' _ _ _ _ rfl)
 have HGg1 : Hid (w.heap.size ≤ w0.heap.size) := Lib.hid HB.out.size
 replace HB := Lib.hid (HB.out.trans (HST.out.mono HB.out.size))
 clear HST
 generalize w0.alloc (.cells (encC c).toArray 76) = w1 at *
 generalize w0.heap.size = g1 at *
 refine lp_pure (v := .bool false) rfl (ex_assign _ rfl rfl) ?_
 try simp only [Act.put, List.setIfInBounds_toArray, List.set_cons_zero, List.set_cons_succ]
 refine wpList_nil ?_
 go_upto_region 1 with fail
 refine wp_act (fun a0 ha0 => ?_)
 have zsz : a0.tmps.size = 6 := by rw [ha0]; rfl
 have z1 : a0.eval (.tmp 1) = .pointer (some ⟨g1, 0, none⟩) := by rw [ha0]; rfl
 refine wrO [] slotsTz11 waitTz11 [Fct.val Flz 0 (aggC c), Fct.val Flz 1 (.bool (decide (c = zC))), Fct.val Flz 2 (.bool (!(decide (c = zC)))), Fct.val Flz 3 (.bool (!(decide (c = zC))))] (fun w' => Below w1.heap.size w1 w') _ 4 0 chkTz11 (by kernel_rfl) (by kernel_rfl) (by kernel_rfl) (by decide) (Below.refl _ _) ?_ ?_
 ·refine lt_s (lt_s (lt_s (lt_s (lt_0) ?_) ?_) ?_) ?_
  ·intro f w1 hS hf aA hA
   have r1 := pO 1 hA (by kernel_rfl) z1
   exact fV rfl rfl _ (ex_loadR 76 (.tmp 1) rfl ⟨g1, 0, none⟩ r1 (fun _ => by kernel_rfl) (encC c) (by rw [encC_len]; kernel_rfl) ((HX1.out.keepB hS).part (encC c) 0 (encC_all c))) hS uS
  ·intro f w1 hS hf aA hA
   have r3 := pA 3 0 hA sbTz11 (by kernel_rfl) zsz rfl (hf 0 (by decide))
   exact fC rfl rfl 62 #[(.tmp 3)] _ rfl #[aggC c] (mp1 r3) (fun w => by kernel_rfl) _ (zeroC_any c w1) hS (fun _ _ h => uS.trans h)
  ·intro f w1 hS hf aA hA
   have r4 := pA 4 1 hA sbTz11 (by kernel_rfl) zsz rfl (hf 1 (by decide))
   exact fV rfl rfl _ (ex_not _ (.tmp 4) rfl r4) hS uS
  ·intro f w1 hS hf aA hA
   have r5 := pA 5 2 hA sbTz11 (by kernel_rfl) zsz rfl (hf 2 (by decide))
   exact fV rfl rfl _ (ex_assign (.tmp 5) rfl r5) hS uS
 intro f u1 hS hf hap
 have h0 : f 0 = aggC c := hf 0 (by decide)
 have h1 : f 1 = .bool (decide (c = zC)) := hf 1 (by decide)
 have h2 : f 2 = .bool (!(decide (c = zC))) := hf 2 (by decide)
 have h3 : f 3 = .bool (!(decide (c = zC))) := hf 3 (by decide)
 clear hf hap
 clear zsz z1
 subst ha0
 simp only [slotsTz11, putAll, h0, h1, h2, h3, Act.put, List.setIfInBounds_toArray, List.set_cons_zero, List.set_cons_succ]
 clear h0 h1 h2 h3
 refine tl_nil ?_
 replace HX1 := Lib.hid (HX1.out.keepB hS)
 replace HB := Lib.hid (HB.out.trans (hS.mono HB.out.size))
 clear hS
 go_wp2_with fail
 go_ret
 exact ⟨⟨_, rfl, rfl⟩, HB.out⟩
theorem zero1_any (c : Ce) (w : World) : Calls Tryd.prog 61 #[aggC c] w fun e w' => (∃ v, e = .returned v ∧ v = .bool (!decide (c = zC))) ∧ Below w.heap.size w w' := zero1_b c w w (Below.refl _ _)
def waitTix0 (i : Nat) : List Nat := ([[]] : List (List Nat)).getD i []
def slotsTix0 : List (Nat × Nat) := [(4, 0)]
theorem chkTix0 : flwO slotsTix0 waitTix0 1 (regOf Tryd.f78.body 0) = true := by kernel_rfl
def waitTix1 (i : Nat) : List Nat := ([[], [0], []] : List (List Nat)).getD i []
def slotsTix1 : List (Nat × Nat) := [(6, 0), (7, 1), (8, 2)]
theorem sbTix1 : slotsB slotsTix1 = true := by kernel_rfl
theorem chkTix1 : flwO slotsTix1 waitTix1 3 (regOf Tryd.f78.body 1) = true := by kernel_rfl
def waitTix3 (i : Nat) : List Nat := ([[], [0]] : List (List Nat)).getD i []
def slotsTix3 : List (Nat × Nat) := [(10, 0), (5, 1)]
theorem sbTix3 : slotsB slotsTix3 = true := by kernel_rfl
theorem chkTix3 : flwO slotsTix3 waitTix3 2 (regOf Tryd.f78.body 3) = true := by kernel_rfl
def waitTix4f4 (i : Nat) : List Nat := ([[], [], [], [1, 2], [3], [0, 4]] : List (List Nat)).getD i []
def slotsTix4f4 : List (Nat × Nat) := [(11, 0), (12, 1), (13, 2), (14, 3), (15, 4), (16, 5)]
theorem sbTix4f4 : slotsB slotsTix4f4 = true := by kernel_rfl
theorem chkTix4f4 : flwO slotsTix4f4 waitTix4f4 6 (regOf Tryd.f78.body 4) = true := by kernel_rfl
def waitTix4t4 (i : Nat) : List Nat := ([[], [], [], [1, 2], [3], [0, 4]] : List (List Nat)).getD i []
def slotsTix4t4 : List (Nat × Nat) := [(11, 0), (12, 1), (13, 2), (14, 3), (15, 4), (16, 5)]
theorem sbTix4t4 : slotsB slotsTix4t4 = true := by kernel_rfl
theorem chkTix4t4 : flwO slotsTix4t4 waitTix4t4 6 (regOf Tryd.f78.body 4) = true := by kernel_rfl
set_option maxHeartbeats 8000000 in
set_option maxRecDepth 100000 in
theorem indexZ_b (v : Value) (L : List Ce) (w w0 : World) (hB : Below w.heap.size w w0) (hM : L.length ≤ 1000000) (hC : Cs w v L) : Calls Tryd.prog 78 #[v, .func (.func 61) #[] #[]] w0 fun e w' => (∃ v, e = .returned v ∧ v = .int .i64 (idxZ L 0)) ∧ Below w.heap.size w w' := by
 go_enter Tryd.func78, Tryd.ntmps78
 have HB := Lib.hid hB
 clear hB
 have HC := Lib.hid hC
 have HZ0 : Hid (w0.heap.size ≤ w0.heap.size) := Lib.hid (Nat.le_refl _)
 clear hC HZ0
 go_upto_region 0 with fail
 refine wp_act (fun a0 ha0 => ?_)
 have zsz : a0.tmps.size = 19 := by rw [ha0]; rfl
 refine wrO [] slotsTix0 waitTix0 [Fct.val Flz 0 (.int .i64 0)] (fun w' => Below w0.heap.size w0 w') _ 1 0 chkTix0 (by kernel_rfl) (by kernel_rfl) (by kernel_rfl) (by decide) (Below.refl _ _) ?_ ?_
 ·refine lt_s (lt_0) ?_
  ·intro f w1 hS hf aA hA
   exact fV rfl rfl (.int .i64 0) (ex_assign _ rfl rfl) hS uS
 intro f u0 hS hf hap
 have h0 : f 0 = .int .i64 0 := hf 0 (by decide)
 clear hf hap
 clear zsz
 subst ha0
 simp only [slotsTix0, putAll, h0, Act.put, List.setIfInBounds_toArray, List.set_cons_zero, List.set_cons_succ]
 clear h0
 refine tl_nil ?_
 replace HB := Lib.hid (HB.out.trans (hS.mono HB.out.size))
 clear hS
 go_upto_region 1 with fail
 refine wp_act (fun a0 ha0 => ?_)
 have zsz : a0.tmps.size = 19 := by rw [ha0]; rfl
 have z0 : a0.eval (.tmp 0) = v := by rw [ha0]; rfl
 refine wrO [] slotsTix1 waitTix1 [Fct.val Flz 0 (v), Fct.val Flz 1 (.int .i64 (((L).length : Int))), Fct.val Flz 2 (.int .i64 0)] (fun w' => Below u0.heap.size u0 w') _ 3 0 chkTix1 (by kernel_rfl) (by kernel_rfl) (by kernel_rfl) (by decide) (Below.refl _ _) ?_ ?_
 ·refine lt_s (lt_s (lt_s (lt_0) ?_) ?_) ?_
  ·intro f w1 hS hf aA hA
   have r0 := pO 0 hA (by kernel_rfl) z0
   exact fV rfl rfl _ (ex_move (.tmp 0) rfl r0) hS uS
  ·intro f w1 hS hf aA hA
   have r6 := pA 6 0 hA sbTix1 (by kernel_rfl) zsz rfl (hf 0 (by decide))
   obtain ⟨q9, c9, hv9, _⟩ := (HC.out.keep (HB.out.trans (hS.mono HB.out.size)))
   exact fV rfl rfl _ (ex_len 29 76 (.tmp 6) rfl (by kernel_rfl) q9 (L).length c9 (r6.trans hv9)) hS uS
  ·intro f w1 hS hf aA hA
   exact fV rfl rfl (.int .i64 0) (ex_move _ rfl rfl) hS uS
 intro f u1 hS hf hap
 have h0 : f 0 = v := hf 0 (by decide)
 have h1 : f 1 = .int .i64 (((L).length : Int)) := hf 1 (by decide)
 have h2 : f 2 = .int .i64 0 := hf 2 (by decide)
 clear hf hap
 clear zsz z0
 subst ha0
 simp only [slotsTix1, putAll, h0, h1, h2, Act.put, List.setIfInBounds_toArray, List.set_cons_zero, List.set_cons_succ]
 clear h0 h1 h2
 refine tl_nil ?_
 replace HB := Lib.hid (HB.out.trans (hS.mono HB.out.size))
 clear hS
 go_wp2_with fail
 go_loopw [8] (fun vi wr => ∃ i : Nat, i ≤ L.length ∧ vi = .int .i64 i ∧ idxZ L 0 = idxZ (L.drop i) i ∧ Below w.heap.size w wr) (fun vi _ => L.length - (intOf vi).toNat)
 case atStart => exact ⟨0, by omega, rfl, rfl, HB.out⟩
 case round =>
  clear HB
  rename_i wr
  obtain ⟨i, hi, rfl, he, hB⟩ := hrel
  have HE := Lib.hid he
  have HB := Lib.hid hB
  clear he hB
  by_cases hlt : i < L.length
  ·have HST := Lib.hid (idxZ_step L i hlt)
   obtain ⟨a, cp, hv, _, hc⟩ := (HC.out.keep HB.out).el hlt
   have HV := Lib.hid hv
   have HCC := Lib.hid hc
   have k3 : (i : Int) < (L.length : Int) := by omega
   clear hv hc
   go_upto_region 3 with fail
   refine wp_act (fun a0 ha0 => ?_)
   have zsz : a0.tmps.size = 19 := by rw [ha0]; rfl
   have z8 : a0.eval (.tmp 8) = .int .i64 ((i : Int)) := by rw [ha0]; rfl
   refine wrO [] slotsTix3 waitTix3 [Fct.val Flz 0 (.int .i64 ((i : Int))), Fct.val Flz 1 (.int .i64 ((i : Int)))] (fun w' => Below wr.heap.size wr w') _ 2 0 chkTix3 (by kernel_rfl) (by kernel_rfl) (by kernel_rfl) (by decide) (Below.refl _ _) ?_ ?_
   ·refine lt_s (lt_s (lt_0) ?_) ?_
    ·intro f w1 hS hf aA hA
     have r8 := pO 8 hA (by kernel_rfl) z8
     exact fV rfl rfl _ (ex_move (.tmp 8) rfl r8) hS uS
    ·intro f w1 hS hf aA hA
     have r10 := pA 10 0 hA sbTix3 (by kernel_rfl) zsz rfl (hf 0 (by decide))
     exact fV rfl rfl _ (ex_assign (.tmp 10) rfl r10) hS uS
   intro f u3 hS hf hap
   have h0 : f 0 = .int .i64 ((i : Int)) := hf 0 (by decide)
   have h1 : f 1 = .int .i64 ((i : Int)) := hf 1 (by decide)
   clear hf hap
   clear zsz z8
   subst ha0
   simp only [slotsTix3, putAll, h0, h1, Act.put, List.setIfInBounds_toArray, List.set_cons_zero, List.set_cons_succ]
   clear h0 h1
   refine tl_nil ?_
   replace HB := Lib.hid (HB.out.trans (hS.mono HB.out.size))
   clear hS
   have HC3 : Hid (∀ w' : World, (∀ k, k < u3.heap.size → w'.heap[k]? = u3.heap[k]?) → ∀ j u, (encC L[i])[j]? = some u → w'.cell? ((a.add (i * 65)).add j) = some u) := Lib.hid (fun w' hw => by
    obtain ⟨a2, cp2, hv2, _, hc2⟩ := (HC.out.keep HB.out).el hlt
    have e := HV.out.symm.trans hv2
    simp only [Value.slice.injEq, Option.some.injEq, true_and] at e
    obtain ⟨rfl, rfl⟩ := e
    exact hc2 w' hw)
   by_cases hz : L[i] = zC
   ·have HZC := Lib.hid hz
    clear hz
    go_upto_region 4 with fail
    refine wp_act (fun a0 ha0 => ?_)
    have zsz : a0.tmps.size = 19 := by rw [ha0]; rfl
    have z1 : a0.eval (.tmp 1) = .func (.func 61) #[] #[] := by rw [ha0]; rfl
    have z0 : a0.eval (.tmp 0) = v := by rw [ha0]; rfl
    have z5 : a0.eval (.tmp 5) = .int .i64 ((i : Int)) := by rw [ha0]; rfl
    refine wrO [] slotsTix4f4 waitTix4f4 [Fct.val Flz 0 (.func (.func 61) #[] #[]), Fct.val Flz 1 (v), Fct.val Flz 2 (.int .i64 ((i : Int))), Fct.val Flz 3 (.pointer (some (a.add (i * 65)))), Fct.val Flz 4 (aggC ((L[i]))), Fct.val Flz 5 (.bool false)] (fun w' => Below u3.heap.size u3 w') _ 6 0 chkTix4f4 (by kernel_rfl) (by kernel_rfl) (by kernel_rfl) (by decide) (Below.refl _ _) ?_ ?_
    ·refine lt_s (lt_s (lt_s (lt_s (lt_s (lt_s (lt_0) ?_) ?_) ?_) ?_) ?_) ?_
     ·intro f w1 hS hf aA hA
      have r1 := pO 1 hA (by kernel_rfl) z1
      exact fV rfl rfl _ (ex_move (.tmp 1) rfl r1) hS uS
     ·intro f w1 hS hf aA hA
      have r0 := pO 0 hA (by kernel_rfl) z0
      exact fV rfl rfl _ (ex_move (.tmp 0) rfl r0) hS uS
     ·intro f w1 hS hf aA hA
      have r5 := pO 5 hA (by kernel_rfl) z5
      exact fV rfl rfl _ (ex_move (.tmp 5) rfl r5) hS uS
     ·intro f w1 hS hf aA hA
      have r12 := pA 12 1 hA sbTix4f4 (by kernel_rfl) zsz rfl (hf 1 (by decide))
      have r13 := pA 13 2 hA sbTix4f4 (by kernel_rfl) zsz rfl (hf 2 (by decide))
      exact fV rfl rfl _ (ex_indexS 29 76 (.tmp 12) (.tmp 13) rfl a L.length cp i 65 (by kernel_rfl) (fun _ => by kernel_rfl) (Eq.trans r12 HV.out) r13 hlt) hS uS
     ·intro f w1 hS hf aA hA
      have r14 := pA 14 3 hA sbTix4f4 (by kernel_rfl) zsz rfl (hf 3 (by decide))
      exact fV rfl rfl _ (ex_loadR 76 (.tmp 14) rfl (a.add (i * 65)) r14 (fun _ => by kernel_rfl) (encC ((L[i]))) (by rw [encC_len]; kernel_rfl) (HC3.out w1 hS.block)) hS uS
     ·intro f w1 hS hf aA hA
      have r11 := pA 11 0 hA sbTix4f4 (by kernel_rfl) zsz rfl (hf 0 (by decide))
      have r15 := pA 15 4 hA sbTix4f4 (by kernel_rfl) zsz rfl (hf 4 (by decide))
      exact flw_callV rfl rfl 61 (.tmp 11) r11 #[(.tmp 15)] _ rfl #[aggC ((L[i]))] (mp1 r15) (fun w => by kernel_rfl) (fun v _ => v = .bool false) (as_any (zero1_any ((L[i])) w1) (congrArg Value.bool (by rw [HZC.out]; rfl))) (fun v w' hr hb => ⟨hS.trans (hb.mono hS.size), Flz.of hb, uS.trans hr⟩)
    intro f u4 hS hf hap
    have h0 : f 0 = .func (.func 61) #[] #[] := hf 0 (by decide)
    have h1 : f 1 = v := hf 1 (by decide)
    have h2 : f 2 = .int .i64 ((i : Int)) := hf 2 (by decide)
    have h3 : f 3 = .pointer (some (a.add (i * 65))) := hf 3 (by decide)
    have h4 : f 4 = aggC ((L[i])) := hf 4 (by decide)
    have h5 : f 5 = .bool false := hf 5 (by decide)
    clear hf hap
    clear zsz z1 z0 z5
    subst ha0
    simp only [slotsTix4f4, putAll, h0, h1, h2, h3, h4, h5, Act.put, List.setIfInBounds_toArray, List.set_cons_zero, List.set_cons_succ]
    clear h0 h1 h2 h3 h4 h5
    refine tl_nil ?_
    replace HB := Lib.hid (HB.out.trans (hS.mono HB.out.size))
    clear hS
    go_wp2_with fail
    go_roundw
    case rel => exact ⟨i + 1, by omega, by go_num, by rw [HE.out, HST.out, if_pos HZC.out], HB.out⟩
    case measure => simp [intOf]; omega
   ·have HZC := Lib.hid hz
    clear hz
    go_upto_region 4 with fail
    refine wp_act (fun a0 ha0 => ?_)
    have zsz : a0.tmps.size = 19 := by rw [ha0]; rfl
    have z1 : a0.eval (.tmp 1) = .func (.func 61) #[] #[] := by rw [ha0]; rfl
    have z0 : a0.eval (.tmp 0) = v := by rw [ha0]; rfl
    have z5 : a0.eval (.tmp 5) = .int .i64 ((i : Int)) := by rw [ha0]; rfl
    refine wrO [] slotsTix4t4 waitTix4t4 [Fct.val Flz 0 (.func (.func 61) #[] #[]), Fct.val Flz 1 (v), Fct.val Flz 2 (.int .i64 ((i : Int))), Fct.val Flz 3 (.pointer (some (a.add (i * 65)))), Fct.val Flz 4 (aggC ((L[i]))), Fct.val Flz 5 (.bool true)] (fun w' => Below u3.heap.size u3 w') _ 6 0 chkTix4t4 (by kernel_rfl) (by kernel_rfl) (by kernel_rfl) (by decide) (Below.refl _ _) ?_ ?_
    ·refine lt_s (lt_s (lt_s (lt_s (lt_s (lt_s (lt_0) ?_) ?_) ?_) ?_) ?_) ?_
     ·intro f w1 hS hf aA hA
      have r1 := pO 1 hA (by kernel_rfl) z1
      exact fV rfl rfl _ (ex_move (.tmp 1) rfl r1) hS uS
     ·intro f w1 hS hf aA hA
      have r0 := pO 0 hA (by kernel_rfl) z0
      exact fV rfl rfl _ (ex_move (.tmp 0) rfl r0) hS uS
     ·intro f w1 hS hf aA hA
      have r5 := pO 5 hA (by kernel_rfl) z5
      exact fV rfl rfl _ (ex_move (.tmp 5) rfl r5) hS uS
     ·intro f w1 hS hf aA hA
      have r12 := pA 12 1 hA sbTix4t4 (by kernel_rfl) zsz rfl (hf 1 (by decide))
      have r13 := pA 13 2 hA sbTix4t4 (by kernel_rfl) zsz rfl (hf 2 (by decide))
      exact fV rfl rfl _ (ex_indexS 29 76 (.tmp 12) (.tmp 13) rfl a L.length cp i 65 (by kernel_rfl) (fun _ => by kernel_rfl) (Eq.trans r12 HV.out) r13 hlt) hS uS
     ·intro f w1 hS hf aA hA
      have r14 := pA 14 3 hA sbTix4t4 (by kernel_rfl) zsz rfl (hf 3 (by decide))
      exact fV rfl rfl _ (ex_loadR 76 (.tmp 14) rfl (a.add (i * 65)) r14 (fun _ => by kernel_rfl) (encC ((L[i]))) (by rw [encC_len]; kernel_rfl) (HC3.out w1 hS.block)) hS uS
     ·intro f w1 hS hf aA hA
      have r11 := pA 11 0 hA sbTix4t4 (by kernel_rfl) zsz rfl (hf 0 (by decide))
      have r15 := pA 15 4 hA sbTix4t4 (by kernel_rfl) zsz rfl (hf 4 (by decide))
      exact flw_callV rfl rfl 61 (.tmp 11) r11 #[(.tmp 15)] _ rfl #[aggC ((L[i]))] (mp1 r15) (fun w => by kernel_rfl) (fun v _ => v = .bool true) (as_any (zero1_any ((L[i])) w1) (congrArg Value.bool (by rw [decide_eq_false HZC.out]; rfl))) (fun v w' hr hb => ⟨hS.trans (hb.mono hS.size), Flz.of hb, uS.trans hr⟩)
    intro f u4 hS hf hap
    have h0 : f 0 = .func (.func 61) #[] #[] := hf 0 (by decide)
    have h1 : f 1 = v := hf 1 (by decide)
    have h2 : f 2 = .int .i64 ((i : Int)) := hf 2 (by decide)
    have h3 : f 3 = .pointer (some (a.add (i * 65))) := hf 3 (by decide)
    have h4 : f 4 = aggC ((L[i])) := hf 4 (by decide)
    have h5 : f 5 = .bool true := hf 5 (by decide)
    clear hf hap
    clear zsz z1 z0 z5
    subst ha0
    simp only [slotsTix4t4, putAll, h0, h1, h2, h3, h4, h5, Act.put, List.setIfInBounds_toArray, List.set_cons_zero, List.set_cons_succ]
    clear h0 h1 h2 h3 h4 h5
    refine tl_nil ?_
    replace HB := Lib.hid (HB.out.trans (hS.mono HB.out.size))
    clear hS
    go_wp2_with fail
    go_ret
    exact ⟨⟨_, rfl, (show Value.int .i64 (i : Int) = _ by rw [HE.out, HST.out, if_neg HZC.out])⟩, HB.out⟩
  ·obtain rfl : i = L.length := by omega
   have k3 : ¬ (L.length : Int) < (L.length : Int) := by omega
   go_wp2_with fail
   go_ret
   exact ⟨congrArg Ending.returned (show Value.int .i64 (-1) = Value.int .i64 (idxZ L 0) by rw [HE.out, List.drop_length]; rfl), HB.out⟩
theorem indexZ_any (v : Value) (L : List Ce) (w : World) (hM : L.length ≤ 1000000) (hC : Cs w v L) : Calls Tryd.prog 78 #[v, .func (.func 61) #[] #[]] w fun e w' => (∃ v, e = .returned v ∧ v = .int .i64 (idxZ L 0)) ∧ Below w.heap.size w w' := indexZ_b v L w w (Below.refl _ _) hM hC
def waitThz0 (i : Nat) : List Nat := ([[]] : List (List Nat)).getD i []
def slotsThz0 : List (Nat × Nat) := [(4, 0)]
theorem chkThz0 : flwO slotsThz0 waitThz0 1 (regOf Tryd.f60.body 0) = true := by kernel_rfl
def waitThz1 (i : Nat) : List Nat := ([[], [], [0, 1], [2], [3]] : List (List Nat)).getD i []
def slotsThz1 : List (Nat × Nat) := [(5, 0), (6, 1), (7, 2), (8, 3), (4, 4)]
theorem sbThz1 : slotsB slotsThz1 = true := by kernel_rfl
theorem chkThz1 : flwO slotsThz1 waitThz1 5 (regOf Tryd.f60.body 1) = true := by kernel_rfl
set_option maxHeartbeats 8000000 in
set_option maxRecDepth 100000 in
theorem hasZ_b (v : Value) (L : List Ce) (w w0 : World) (hB : Below w.heap.size w w0) (hM : L.length ≤ 1000000) (hC : Cs w v L) : Calls Tryd.prog 60 #[v, .func (.func 61) #[] #[]] w0 fun e w' => (∃ v, e = .returned v ∧ v = .bool (decide (idxZ L 0 ≥ (0 : Int)))) ∧ Below w.heap.size w w' := by
 go_enter Tryd.func60, Tryd.ntmps60
 have HB := Lib.hid hB
 clear hB
 have HC := Lib.hid hC
 clear hC
 go_upto_region 0 with fail
 refine wp_act (fun a0 ha0 => ?_)
 have zsz : a0.tmps.size = 9 := by rw [ha0]; rfl
 refine wrO [] slotsThz0 waitThz0 [Fct.val Flz 0 (.bool false)] (fun w' => Below w0.heap.size w0 w') _ 1 0 chkThz0 (by kernel_rfl) (by kernel_rfl) (by kernel_rfl) (by decide) (Below.refl _ _) ?_ ?_
 ·refine lt_s (lt_0) ?_
  ·intro f w1 hS hf aA hA
   exact fV rfl rfl (.bool false) (ex_assign _ rfl rfl) hS uS
 intro f u0 hS hf hap
 have h0 : f 0 = .bool false := hf 0 (by decide)
 clear hf hap
 clear zsz
 subst ha0
 simp only [slotsThz0, putAll, h0, Act.put, List.setIfInBounds_toArray, List.set_cons_zero, List.set_cons_succ]
 clear h0
 refine tl_nil ?_
 replace HB := Lib.hid (HB.out.trans (hS.mono HB.out.size))
 clear hS
 go_upto_region 1 with fail
 refine wp_act (fun a0 ha0 => ?_)
 have zsz : a0.tmps.size = 9 := by rw [ha0]; rfl
 have z0 : a0.eval (.tmp 0) = v := by rw [ha0]; rfl
 have z1 : a0.eval (.tmp 1) = .func (.func 61) #[] #[] := by rw [ha0]; rfl
 refine wrO [] slotsThz1 waitThz1 [Fct.val Flz 0 (v), Fct.val Flz 1 (.func (.func 61) #[] #[]), Fct.val Flz 2 (.int .i64 (idxZ L 0)), Fct.val Flz 3 (.bool (decide ((idxZ L 0) ≥ (0 : Int)))), Fct.val Flz 4 (.bool (decide ((idxZ L 0) ≥ (0 : Int))))] (fun w' => Below u0.heap.size u0 w') _ 5 0 chkThz1 (by kernel_rfl) (by kernel_rfl) (by kernel_rfl) (by decide) (Below.refl _ _) ?_ ?_
 ·refine lt_s (lt_s (lt_s (lt_s (lt_s (lt_0) ?_) ?_) ?_) ?_) ?_
  ·intro f w1 hS hf aA hA
   have r0 := pO 0 hA (by kernel_rfl) z0
   exact fV rfl rfl _ (ex_move (.tmp 0) rfl r0) hS uS
  ·intro f w1 hS hf aA hA
   have r1 := pO 1 hA (by kernel_rfl) z1
   exact fV rfl rfl _ (ex_move (.tmp 1) rfl r1) hS uS
  ·intro f w1 hS hf aA hA
   have r5 := pA 5 0 hA sbThz1 (by kernel_rfl) zsz rfl (hf 0 (by decide))
   have r6 := pA 6 1 hA sbThz1 (by kernel_rfl) zsz rfl (hf 1 (by decide))
   exact fC rfl rfl 78 #[(.tmp 5), (.tmp 6)] _ rfl #[v, .func (.func 61) #[] #[]] (mp2 r5 r6) (fun w => by kernel_rfl) _ (indexZ_any _ L w1 hM (HC.out.keep (HB.out.trans (hS.mono HB.out.size)))) hS (fun _ _ h => uS.trans h)
  ·intro f w1 hS hf aA hA
   have r7 := pA 7 2 hA sbThz1 (by kernel_rfl) zsz rfl (hf 2 (by decide))
   exact fV rfl rfl _ (ex_int .geq _ _ (.tmp 7) _ rfl .i64 (idxZ L 0) 0 r7 rfl (.bool (decide ((idxZ L 0) ≥ (0 : Int)))) (fun _ => rfl)) hS uS
  ·intro f w1 hS hf aA hA
   have r8 := pA 8 3 hA sbThz1 (by kernel_rfl) zsz rfl (hf 3 (by decide))
   exact fV rfl rfl _ (ex_assign (.tmp 8) rfl r8) hS uS
 intro f u1 hS hf hap
 have h0 : f 0 = v := hf 0 (by decide)
 have h1 : f 1 = .func (.func 61) #[] #[] := hf 1 (by decide)
 have h2 : f 2 = .int .i64 (idxZ L 0) := hf 2 (by decide)
 have h3 : f 3 = .bool (decide ((idxZ L 0) ≥ (0 : Int))) := hf 3 (by decide)
 have h4 : f 4 = .bool (decide ((idxZ L 0) ≥ (0 : Int))) := hf 4 (by decide)
 clear hf hap
 clear zsz z0 z1
 subst ha0
 simp only [slotsThz1, putAll, h0, h1, h2, h3, h4, Act.put, List.setIfInBounds_toArray, List.set_cons_zero, List.set_cons_succ]
 clear h0 h1 h2 h3 h4
 refine tl_nil ?_
 replace HB := Lib.hid (HB.out.trans (hS.mono HB.out.size))
 clear hS
 go_wp2_with fail
 go_ret
 exact ⟨⟨_, rfl, rfl⟩, HB.out⟩
theorem hasZ_any (v : Value) (L : List Ce) (w : World) (hM : L.length ≤ 1000000) (hC : Cs w v L) : Calls Tryd.prog 60 #[v, .func (.func 61) #[] #[]] w fun e w' => (∃ v, e = .returned v ∧ v = .bool (decide (idxZ L 0 ≥ (0 : Int)))) ∧ Below w.heap.size w w' := hasZ_b v L w w (Below.refl _ _) hM hC
def waitTzef1 (i : Nat) : List Nat := ([[], [0], [1], [2], [2], [2], [2], [2, 6], [7]] : List (List Nat)).getD i []
def slotsTzef1 : List (Nat × Nat) := [(3, 0), (4, 1), (5, 2), (6, 3), (7, 4), (8, 5), (9, 6), (10, 7), (2, 8)]
theorem sbTzef1 : slotsB slotsTzef1 = true := by kernel_rfl
theorem chkTzef1 : flwO slotsTzef1 waitTzef1 9 (regOf Tryd.f44.body 1) = true := by kernel_rfl
def waitTzet1 (i : Nat) : List Nat := ([[], [0], [1], [2], [2, 3], [2, 4], [2, 5], [2, 6], [7]] : List (List Nat)).getD i []
def slotsTzet1 : List (Nat × Nat) := [(3, 0), (4, 1), (5, 2), (6, 3), (7, 4), (8, 5), (9, 6), (10, 7), (2, 8)]
theorem sbTzet1 : slotsB slotsTzet1 = true := by kernel_rfl
theorem chkTzet1 : flwO slotsTzet1 waitTzet1 9 (regOf Tryd.f44.body 1) = true := by kernel_rfl
set_option maxHeartbeats 8000000 in
set_option maxRecDepth 100000 in
theorem zeroT_b (s : Nat) (v : Value) (L : List Ce) (w w0 : World) (hB : Below w.heap.size w w0) (hM : L.length ≤ 1000000) (hC : Cs w v L) : Calls Tryd.prog 44 #[.agg #[.int .u64 (s : Int), v]] w0 fun e w' => (∃ v, e = .returned v ∧ v = .bool (zeroT L)) ∧ Below w.heap.size w w' := by
 go_enter Tryd.func44, Tryd.ntmps44
 have HB := Lib.hid hB
 clear hB
 have HC := Lib.hid hC
 clear hC
 go_upto_region 0 with fail
 refine wp_region_lit ?_
 try simp only [Act.put, List.setIfInBounds_toArray, List.set_cons_zero, List.set_cons_succ]
 refine lp_step rfl (fun K hK => wp_box_row 31 (.tmp 0) rfl (.agg #[.int .u64 (s : Int), v]) rfl (hK _ _ ?_))
 try simp only [Act.put, List.setIfInBounds_toArray, List.set_cons_zero, List.set_cons_succ]
 show wpList _ _ _ _ _ (w0.alloc (.cells (([.int .u64 (s : Int), v] : List Value)).toArray 31))
 have HST : Hid (Below w0.heap.size w0 (w0.alloc (.cells (([.int .u64 (s : Int), v] : List Value)).toArray 31))) := Lib.hid ((Below.refl _ _).alloc (Nat.le_refl _) _)
 have HX1 : Hid (Has (w0.alloc (.cells (([.int .u64 (s : Int), v] : List Value)).toArray 31)) w0.heap.size 31 ([.int .u64 (s : Int), v])) := Lib.hid (Has.made' _ _ _ _ rfl)
 have HGg1 : Hid (w.heap.size ≤ w0.heap.size) := Lib.hid HB.out.size
 replace HB := Lib.hid (HB.out.trans (HST.out.mono HB.out.size))
 clear HST
 generalize w0.alloc (.cells (([.int .u64 (s : Int), v] : List Value)).toArray 31) = w1 at *
 generalize w0.heap.size = g1 at *
 refine lp_pure (v := .bool false) rfl (ex_assign _ rfl rfl) ?_
 try simp only [Act.put, List.setIfInBounds_toArray, List.set_cons_zero, List.set_cons_succ]
 refine wpList_nil ?_
 obtain ⟨gd, hgd⟩ : ∃ gd, goodN (L.length : Int) = gd := ⟨_, rfl⟩
 have HGD := Lib.hid hgd
 clear hgd
 cases gd
 ·go_upto_region 1 with fail
  refine wp_act (fun a0 ha0 => ?_)
  have zsz : a0.tmps.size = 11 := by rw [ha0]; rfl
  have z1 : a0.eval (.tmp 1) = .pointer (some ⟨g1, 0, none⟩) := by rw [ha0]; rfl
  refine wrO [] slotsTzef1 waitTzef1 [Fct.val Flz 0 (.agg #[.int .u64 (s : Int), v]), Fct.val Flz 1 (.bool false), Fct.val Flz 2 (.bool false), Fct.val Flz 3 (undef), Fct.val Flz 4 (undef), Fct.val Flz 5 (undef), Fct.val Flz 6 (undef), Fct.val Flz 7 (.bool false), Fct.val Flz 8 (.bool false)] (fun w' => Below w1.heap.size w1 w') _ 9 0 chkTzef1 (by kernel_rfl) (by kernel_rfl) (by kernel_rfl) (by decide) (Below.refl _ _) ?_ ?_
  ·refine lt_s (lt_s (lt_s (lt_s (lt_s (lt_s (lt_s (lt_s (lt_s (lt_0) ?_) ?_) ?_) ?_) ?_) ?_) ?_) ?_) ?_
   ·intro f w1 hS hf aA hA
    have r1 := pO 1 hA (by kernel_rfl) z1
    exact fV rfl rfl _ (ex_loadR 31 (.tmp 1) rfl ⟨g1, 0, none⟩ r1 (fun _ => by kernel_rfl) [.int .u64 (s : Int), v] (by kernel_rfl) ((HX1.out.keepB hS).part [.int .u64 (s : Int), v] 0 (fun j u hu => by rw [Nat.zero_add]; exact hu))) hS uS
   ·intro f w1 hS hf aA hA
    have r3 := pA 3 0 hA sbTzef1 (by kernel_rfl) zsz rfl (hf 0 (by decide))
    exact fC rfl rfl 19 #[(.tmp 3)] _ rfl #[.agg #[.int .u64 (s : Int), v]] (mp1 r3) (fun w => by kernel_rfl) _ (as_any (goodT_any _ _ _ w1 (HC.out.keep (HB.out.trans (hS.mono HB.out.size)))) (congrArg Value.bool HGD.out)) hS (fun _ _ h => uS.trans h)
   ·intro f w1 hS hf aA hA
    have r4 := pA 4 1 hA sbTzef1 (by kernel_rfl) zsz rfl (hf 1 (by decide))
    exact fV rfl rfl _ (ex_move (.tmp 4) rfl r4) hS uS
   ·intro f w1 hS hf aA hA
    have t5 := pG 5 2 hA sbTzef1 (by kernel_rfl) zsz rfl (hf 2 (by decide))
    exact flw_skip rfl ((wanted_of rfl 5 rfl t5).trans rfl) hS (Flz.refl _) uS
   ·intro f w1 hS hf aA hA
    have t5 := pG 5 2 hA sbTzef1 (by kernel_rfl) zsz rfl (hf 2 (by decide))
    exact flw_skip rfl ((wanted_of rfl 5 rfl t5).trans rfl) hS (Flz.refl _) uS
   ·intro f w1 hS hf aA hA
    have t5 := pG 5 2 hA sbTzef1 (by kernel_rfl) zsz rfl (hf 2 (by decide))
    exact flw_skip rfl ((wanted_of rfl 5 rfl t5).trans rfl) hS (Flz.refl _) uS
   ·intro f w1 hS hf aA hA
    have t5 := pG 5 2 hA sbTzef1 (by kernel_rfl) zsz rfl (hf 2 (by decide))
    exact flw_skip rfl ((wanted_of rfl 5 rfl t5).trans rfl) hS (Flz.refl _) uS
   ·intro f w1 hS hf aA hA
    have r5 := pA 5 2 hA sbTzef1 (by kernel_rfl) zsz rfl (hf 2 (by decide))
    exact fV rfl rfl (.bool false) (ex_pick (.tmp 5) (.tmp 9) _ rfl false r5 ((if_neg (by decide)).trans rfl)) hS uS
   ·intro f w1 hS hf aA hA
    have r10 := pA 10 7 hA sbTzef1 (by kernel_rfl) zsz rfl (hf 7 (by decide))
    exact fV rfl rfl _ (ex_assign (.tmp 10) rfl r10) hS uS
  intro f u1 hS hf hap
  have h0 : f 0 = .agg #[.int .u64 (s : Int), v] := hf 0 (by decide)
  have h1 : f 1 = .bool false := hf 1 (by decide)
  have h2 : f 2 = .bool false := hf 2 (by decide)
  have h3 : f 3 = undef := hf 3 (by decide)
  have h4 : f 4 = undef := hf 4 (by decide)
  have h5 : f 5 = undef := hf 5 (by decide)
  have h6 : f 6 = undef := hf 6 (by decide)
  have h7 : f 7 = .bool false := hf 7 (by decide)
  have h8 : f 8 = .bool false := hf 8 (by decide)
  clear hf hap
  clear zsz z1
  subst ha0
  simp only [slotsTzef1, putAll, h0, h1, h2, h3, h4, h5, h6, h7, h8, Act.put, List.setIfInBounds_toArray, List.set_cons_zero, List.set_cons_succ]
  clear h0 h1 h2 h3 h4 h5 h6 h7 h8
  refine tl_nil ?_
  replace HX1 := Lib.hid (HX1.out.keepB hS)
  replace HB := Lib.hid (HB.out.trans (hS.mono HB.out.size))
  clear hS
  go_wp2_with fail
  go_ret
  exact ⟨⟨_, rfl, (show Value.bool false = _ by unfold zeroT; rw [HGD.out]; rfl)⟩, HB.out⟩
 ·go_upto_region 1 with fail
  refine wp_act (fun a0 ha0 => ?_)
  have zsz : a0.tmps.size = 11 := by rw [ha0]; rfl
  have z1 : a0.eval (.tmp 1) = .pointer (some ⟨g1, 0, none⟩) := by rw [ha0]; rfl
  refine wrO [] slotsTzet1 waitTzet1 [Fct.val Flz 0 (.agg #[.int .u64 (s : Int), v]), Fct.val Flz 1 (.bool true), Fct.val Flz 2 (.bool true), Fct.val Flz 3 (.pointer (some ⟨g1, 1, none⟩)), Fct.val Flz 4 (v), Fct.val Flz 5 (.bool (decide (idxZ L 0 ≥ (0 : Int)))), Fct.val Flz 6 (.bool (!(decide (idxZ L 0 ≥ (0 : Int))))), Fct.val Flz 7 (.bool (!(decide (idxZ L 0 ≥ (0 : Int))))), Fct.val Flz 8 (.bool (!(decide (idxZ L 0 ≥ (0 : Int)))))] (fun w' => Below w1.heap.size w1 w') _ 9 0 chkTzet1 (by kernel_rfl) (by kernel_rfl) (by kernel_rfl) (by decide) (Below.refl _ _) ?_ ?_
  ·refine lt_s (lt_s (lt_s (lt_s (lt_s (lt_s (lt_s (lt_s (lt_s (lt_0) ?_) ?_) ?_) ?_) ?_) ?_) ?_) ?_) ?_
   ·intro f w1 hS hf aA hA
    have r1 := pO 1 hA (by kernel_rfl) z1
    exact fV rfl rfl _ (ex_loadR 31 (.tmp 1) rfl ⟨g1, 0, none⟩ r1 (fun _ => by kernel_rfl) [.int .u64 (s : Int), v] (by kernel_rfl) ((HX1.out.keepB hS).part [.int .u64 (s : Int), v] 0 (fun j u hu => by rw [Nat.zero_add]; exact hu))) hS uS
   ·intro f w1 hS hf aA hA
    have r3 := pA 3 0 hA sbTzet1 (by kernel_rfl) zsz rfl (hf 0 (by decide))
    exact fC rfl rfl 19 #[(.tmp 3)] _ rfl #[.agg #[.int .u64 (s : Int), v]] (mp1 r3) (fun w => by kernel_rfl) _ (as_any (goodT_any _ _ _ w1 (HC.out.keep (HB.out.trans (hS.mono HB.out.size)))) (congrArg Value.bool HGD.out)) hS (fun _ _ h => uS.trans h)
   ·intro f w1 hS hf aA hA
    have r4 := pA 4 1 hA sbTzet1 (by kernel_rfl) zsz rfl (hf 1 (by decide))
    exact fV rfl rfl _ (ex_move (.tmp 4) rfl r4) hS uS
   ·intro f w1 hS hf aA hA
    have t5 := pG 5 2 hA sbTzet1 (by kernel_rfl) zsz rfl (hf 2 (by decide))
    have r1 := pO 1 hA (by kernel_rfl) z1
    exact fV rfl ((wanted_of rfl 5 rfl t5).trans rfl) _ (fldT1 31 (Or.inl rfl) (.tmp 1) rfl g1 r1) hS uS
   ·intro f w1 hS hf aA hA
    have t5 := pG 5 2 hA sbTzet1 (by kernel_rfl) zsz rfl (hf 2 (by decide))
    have r6 := pA 6 3 hA sbTzet1 (by kernel_rfl) zsz rfl (hf 3 (by decide))
    exact fV rfl ((wanted_of rfl 5 rfl t5).trans rfl) _ (ex_load1 29 (.tmp 6) rfl ⟨g1, 1, none⟩ r6 (fun _ => by kernel_rfl) ((HX1.out.keepB hS).cellv rfl)) hS uS
   ·intro f w1 hS hf aA hA
    have t5 := pG 5 2 hA sbTzet1 (by kernel_rfl) zsz rfl (hf 2 (by decide))
    have r7 := pA 7 4 hA sbTzet1 (by kernel_rfl) zsz rfl (hf 4 (by decide))
    exact fC rfl ((wanted_of rfl 5 rfl t5).trans rfl) 60 #[(.tmp 7), _] _ rfl #[v, .func (.func 61) #[] #[]] (by simp only [List.map_toArray, List.map_cons, List.map_nil, r7]; rfl) (fun w => by kernel_rfl) _ (hasZ_any _ L w1 hM (HC.out.keep (HB.out.trans (hS.mono HB.out.size)))) hS (fun _ _ h => uS.trans h)
   ·intro f w1 hS hf aA hA
    have t5 := pG 5 2 hA sbTzet1 (by kernel_rfl) zsz rfl (hf 2 (by decide))
    have r8 := pA 8 5 hA sbTzet1 (by kernel_rfl) zsz rfl (hf 5 (by decide))
    exact fV rfl ((wanted_of rfl 5 rfl t5).trans rfl) _ (ex_not _ (.tmp 8) rfl r8) hS uS
   ·intro f w1 hS hf aA hA
    have r5 := pA 5 2 hA sbTzet1 (by kernel_rfl) zsz rfl (hf 2 (by decide))
    have r9 := pA 9 6 hA sbTzet1 (by kernel_rfl) zsz rfl (hf 6 (by decide))
    exact fV rfl rfl (.bool (!(decide (idxZ L 0 ≥ (0 : Int))))) (ex_pick (.tmp 5) (.tmp 9) _ rfl true r5 ((if_pos rfl).trans r9)) hS uS
   ·intro f w1 hS hf aA hA
    have r10 := pA 10 7 hA sbTzet1 (by kernel_rfl) zsz rfl (hf 7 (by decide))
    exact fV rfl rfl _ (ex_assign (.tmp 10) rfl r10) hS uS
  intro f u1 hS hf hap
  have h0 : f 0 = .agg #[.int .u64 (s : Int), v] := hf 0 (by decide)
  have h1 : f 1 = .bool true := hf 1 (by decide)
  have h2 : f 2 = .bool true := hf 2 (by decide)
  have h3 : f 3 = .pointer (some ⟨g1, 1, none⟩) := hf 3 (by decide)
  have h4 : f 4 = v := hf 4 (by decide)
  have h5 : f 5 = .bool (decide (idxZ L 0 ≥ (0 : Int))) := hf 5 (by decide)
  have h6 : f 6 = .bool (!(decide (idxZ L 0 ≥ (0 : Int)))) := hf 6 (by decide)
  have h7 : f 7 = .bool (!(decide (idxZ L 0 ≥ (0 : Int)))) := hf 7 (by decide)
  have h8 : f 8 = .bool (!(decide (idxZ L 0 ≥ (0 : Int)))) := hf 8 (by decide)
  clear hf hap
  clear zsz z1
  subst ha0
  simp only [slotsTzet1, putAll, h0, h1, h2, h3, h4, h5, h6, h7, h8, Act.put, List.setIfInBounds_toArray, List.set_cons_zero, List.set_cons_succ]
  clear h0 h1 h2 h3 h4 h5 h6 h7 h8
  refine tl_nil ?_
  replace HX1 := Lib.hid (HX1.out.keepB hS)
  replace HB := Lib.hid (HB.out.trans (hS.mono HB.out.size))
  clear hS
  go_wp2_with fail
  go_ret
  exact ⟨⟨_, rfl, (show Value.bool (!decide (idxZ L 0 ≥ (0 : Int))) = _ by rw [zeroT_eq L HGD.out])⟩, HB.out⟩
theorem zeroT_any (s : Nat) (v : Value) (L : List Ce) (w : World) (hM : L.length ≤ 1000000) (hC : Cs w v L) : Calls Tryd.prog 44 #[.agg #[.int .u64 (s : Int), v]] w fun e w' => (∃ v, e = .returned v ∧ v = .bool (zeroT L)) ∧ Below w.heap.size w w' := zeroT_b s v L w w (Below.refl _ _) hM hC
end Go.Proofs.YtnkcehmgagpadabDoor
/- Contract: the law's own sameT. Condition: at most 10^6 cells. -/
namespace Go.Proofs.YtnkcehmgagpadabDoor
open Go.RowKit
end Go.Proofs.YtnkcehmgagpadabDoor
/- Contracts: the document's own Minus; the law's own cellOf, tableOf. Condition: at most 10^5 cells each. -/
namespace Go.Proofs.YtnkcehmgagpadabDoor
open Go.RowKit
end Go.Proofs.YtnkcehmgagpadabDoor
