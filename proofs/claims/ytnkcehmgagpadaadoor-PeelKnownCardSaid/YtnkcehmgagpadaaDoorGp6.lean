/- Contracts: package table's Zero, Count, with slices.IndexFunc and ContainsFunc over cells. Condition: at most 10^6 cells. -/
import Derived.Test.YtnkcehmgagpadaaDoorSq
import Derived.Test.YtnkcehmgagpadaaDoorGp4
import Derived.Test.YtnkcehmgagpadaaDoorGp2
namespace Go.Proofs.YtnkcehmgagpadaaDoor
open Go.RowKit
def idxZ : List Ce → Nat → Int
 | [], _ => -1
 | c :: L, k => if c = zC then idxZ L (k + 1) else (k : Int)
theorem idxZ_ge : ∀ (L : List Ce) (k : Nat), decide (idxZ L k ≥ (0 : Int)) = !(L.all fun c => decide (c = zC))
 | [], _ => rfl
 | c :: L, k => by
  unfold idxZ
  by_cases h : c = zC
  ·rw [if_pos h, idxZ_ge L (k + 1)]; simp [h]
  ·rw [if_neg h]; simp [h]
theorem idxZ_step (L : List Ce) (k : Nat) (h : k < L.length) : idxZ (L.drop k) k = if L[k] = zC then idxZ (L.drop (k + 1)) (k + 1) else (k : Int) := by
 rw [List.drop_eq_getElem_cons h]; rfl
theorem zeroT_eq (L : List Ce) (h : goodN (L.length : Int) = true) : (!decide (idxZ L 0 ≥ (0 : Int))) = zeroT L := by
 rw [idxZ_ge]; unfold zeroT; rw [h]; simp
theorem Cs.head {w : World} {q : Option Addr} {c : Nat} {L : List Ce} (h : Cs w (.slice q L.length c) L) (k : Nat) (hk : k ≤ L.length) : Cs w (.slice q k c) (L.take k) := by
 obtain ⟨q', c', he, h2, h3, h4⟩ := h
 simp only [Value.slice.injEq, true_and] at he
 obtain ⟨rfl, rfl⟩ := he
 have hl : (L.take k).length = k := by rw [List.length_take]; omega
 refine ⟨q, c, by rw [hl], by rw [hl]; omega, h3, fun h0 => ?_⟩
 obtain ⟨a, rfl, h5, h6⟩ := h4.get (by rw [rowC_len, hl] at h0; rw [rowC_len]; omega)
 refine ⟨a, rfl, h5, fun j u hj => h6 j u ?_⟩
 rw [← rowC_take] at hj
 rw [List.getElem?_take] at hj
 split at hj
 ·exact hj
 ·cases hj
def waitTz11 (i : Nat) : List Nat := ([[], [0], [1], [2]] : List (List Nat)).getD i []
def slotsTz11 : List (Nat × Nat) := [(3, 0), (4, 1), (5, 2), (2, 3)]
theorem sbTz11 : slotsB slotsTz11 = true := by kernel_rfl
theorem chkTz11 : flwO slotsTz11 waitTz11 4 (regOf Tryd.f41.body 1) = true := by kernel_rfl
set_option maxHeartbeats 8000000 in
set_option maxRecDepth 100000 in
theorem zero1_b (c : Ce) (w w0 : World) (hB : Below w.heap.size w w0) : Calls Tryd.prog 41 #[aggC c] w0 fun e w' => (∃ v, e = .returned v ∧ v = .bool (!decide (c = zC))) ∧ Below w.heap.size w w' := by
 go_enter Tryd.func41, Tryd.ntmps41
 have HB := Lib.hid hB
 clear hB
 go_upto_region 0 with fail
 refine wp_region_lit ?_
 try simp only [Act.put, List.setIfInBounds_toArray, List.set_cons_zero, List.set_cons_succ]
 refine lp_step rfl (fun K hK => wp_box_row 47 (.tmp 0) rfl (aggC c) rfl (hK _ _ ?_))
 try simp only [Act.put, List.setIfInBounds_toArray, List.set_cons_zero, List.set_cons_succ]
 show wpList _ _ _ _ _ (w0.alloc (.cells (encC c).toArray 47))
 have HST : Hid (Below w0.heap.size w0 (w0.alloc (.cells (encC c).toArray 47))) := Lib.hid ((Below.refl _ _).alloc (Nat.le_refl _) _)
 have HX1 : Hid (Has (w0.alloc (.cells (encC c).toArray 47)) w0.heap.size 47 (encC c)) := Lib.hid (Has.made' _ _ _ _ rfl)
 have HGg1 : Hid (w.heap.size ≤ w0.heap.size) := Lib.hid HB.out.size
 replace HB := Lib.hid (HB.out.trans (HST.out.mono HB.out.size))
 clear HST
 generalize w0.alloc (.cells (encC c).toArray 47) = w1 at *
 generalize w0.heap.size = g1 at *
 refine lp_pure (v := .bool false) rfl (ex_assign _ rfl rfl) ?_
 try simp only [Act.put, List.setIfInBounds_toArray, List.set_cons_zero, List.set_cons_succ]
 refine wpList_nil ?_
 go_upto_region 1 with fail
 refine wp_act (fun a0 ha0 => ?_)
 have zsz : a0.tmps.size = 6 := by rw [ha0]; rfl
 have z1 : a0.eval (.tmp 1) = .pointer (some ⟨g1, 0, none⟩) := by rw [ha0]; rfl
 refine wrO [] slotsTz11 waitTz11 [Fct.val Flz 0 (aggC c), Fct.val Flz 1 (.bool (decide (c = zC))), Fct.val Flz 2 (.bool (!(decide (c = zC)))), Fct.val Flz 3 (.bool (!(decide (c = zC))))] (fun w' => Below w1.heap.size w1 w') _ 4 0 chkTz11 (by kernel_rfl) (by kernel_rfl) (by kernel_rfl) (by decide) (Below.refl _ _) ?_ ?_
 ·refine lt_s (lt_s (lt_s (lt_s (lt_0) ?_) ?_) ?_) ?_
  ·intro f w1 hS hf aA hA
   have r1 := qO 1 hA z1
   exact fV rfl rfl _ (ex_loadR 47 (.tmp 1) rfl ⟨g1, 0, none⟩ r1 (fun _ => by kernel_rfl) (encC c) (by rw [encC_len]; kernel_rfl) ((HX1.out.keepB hS).part (encC c) 0 (encC_all c))) hS uS
  ·intro f w1 hS hf aA hA
   have r3 := qA 3 0 hA sbTz11 zsz (hf 0 (by decide))
   exact fC rfl rfl 42 #[(.tmp 3)] _ rfl #[aggC c] (mp1 r3) (fun w => by kernel_rfl) _ (zeroC_any c w1) hS (fun _ _ h => uS.trans h)
  ·intro f w1 hS hf aA hA
   have r4 := qA 4 1 hA sbTz11 zsz (hf 1 (by decide))
   exact fV rfl rfl _ (ex_not _ (.tmp 4) rfl r4) hS uS
  ·intro f w1 hS hf aA hA
   have r5 := qA 5 2 hA sbTz11 zsz (hf 2 (by decide))
   exact fV rfl rfl _ (ex_assign (.tmp 5) rfl r5) hS uS
 intro f u1 hS hf hap
 have h0 := eqL (hf 0 (by decide)) rfl
 have h1 := eqL (hf 1 (by decide)) rfl
 have h2 := eqL (hf 2 (by decide)) rfl
 have h3 := eqL (hf 3 (by decide)) rfl
 clear hf hap
 clear zsz z1
 subst ha0
 simp only [slotsTz11, putAll, h0, h1, h2, h3, Act.put, List.setIfInBounds_toArray, List.set_cons_zero, List.set_cons_succ]
 clear h0 h1 h2 h3
 refine tl_nil ?_
 replace HX1 := Lib.hid (HX1.out.keepB hS)
 replace HB := Lib.hid (HB.out.trans (hS.mono HB.out.size))
 clear hS
 go_wp2_with fail
 go_ret
 exact ⟨⟨_, rfl, rfl⟩, HB.out⟩
theorem zero1_any (c : Ce) (w : World) : Calls Tryd.prog 41 #[aggC c] w fun e w' => (∃ v, e = .returned v ∧ v = .bool (!decide (c = zC))) ∧ Below w.heap.size w w' := zero1_b c w w (Below.refl _ _)
def waitTix0 (i : Nat) : List Nat := ([[]] : List (List Nat)).getD i []
def slotsTix0 : List (Nat × Nat) := [(4, 0)]
theorem chkTix0 : flwO slotsTix0 waitTix0 1 (regOf Tryd.f66.body 0) = true := by kernel_rfl
def waitTix1 (i : Nat) : List Nat := ([[], [0], []] : List (List Nat)).getD i []
def slotsTix1 : List (Nat × Nat) := [(6, 0), (7, 1), (8, 2)]
theorem sbTix1 : slotsB slotsTix1 = true := by kernel_rfl
theorem chkTix1 : flwO slotsTix1 waitTix1 3 (regOf Tryd.f66.body 1) = true := by kernel_rfl
def waitTix3 (i : Nat) : List Nat := ([[], [0]] : List (List Nat)).getD i []
def slotsTix3 : List (Nat × Nat) := [(10, 0), (5, 1)]
theorem sbTix3 : slotsB slotsTix3 = true := by kernel_rfl
theorem chkTix3 : flwO slotsTix3 waitTix3 2 (regOf Tryd.f66.body 3) = true := by kernel_rfl
def waitTix4f4 (i : Nat) : List Nat := ([[], [], [], [1, 2], [3], [0, 4]] : List (List Nat)).getD i []
def slotsTix4f4 : List (Nat × Nat) := [(11, 0), (12, 1), (13, 2), (14, 3), (15, 4), (16, 5)]
theorem sbTix4f4 : slotsB slotsTix4f4 = true := by kernel_rfl
theorem chkTix4f4 : flwO slotsTix4f4 waitTix4f4 6 (regOf Tryd.f66.body 4) = true := by kernel_rfl
set_option maxHeartbeats 8000000 in
set_option maxRecDepth 100000 in
theorem indexZ_b (v : Value) (L : List Ce) (w w0 : World) (hB : Below w.heap.size w w0) (hM : L.length ≤ 1000000) (hC : Cs w v L) : Calls Tryd.prog 66 #[v, .func (.func 41) #[] #[]] w0 fun e w' => (∃ v, e = .returned v ∧ v = .int .i64 (idxZ L 0)) ∧ Below w.heap.size w w' := by
 go_enter Tryd.func66, Tryd.ntmps66
 have HB := Lib.hid hB
 clear hB
 have HC := Lib.hid hC
 have HZ0 : Hid (w0.heap.size ≤ w0.heap.size) := Lib.hid (Nat.le_refl _)
 clear hC HZ0
 go_upto_region 0 with fail
 refine wp_act (fun a0 ha0 => ?_)
 have zsz : a0.tmps.size = 19 := by rw [ha0]; rfl
 refine wrO [] slotsTix0 waitTix0 [Fct.val Flz 0 (.int .i64 0)] (fun w' => Below w0.heap.size w0 w') _ 1 0 chkTix0 (by kernel_rfl) (by kernel_rfl) (by kernel_rfl) (by decide) (Below.refl _ _) ?_ ?_
 ·refine lt_s (lt_0) ?_
  ·intro f w1 hS hf aA hA
   exact fV rfl rfl (.int .i64 0) (ex_assign _ rfl rfl) hS uS
 intro f u0 hS hf hap
 have h0 := eqL (hf 0 (by decide)) rfl
 clear hf hap
 clear zsz
 subst ha0
 simp only [slotsTix0, putAll, h0, Act.put, List.setIfInBounds_toArray, List.set_cons_zero, List.set_cons_succ]
 clear h0
 refine tl_nil ?_
 replace HB := Lib.hid (HB.out.trans (hS.mono HB.out.size))
 clear hS
 go_upto_region 1 with fail
 refine wp_act (fun a0 ha0 => ?_)
 have zsz : a0.tmps.size = 19 := by rw [ha0]; rfl
 have z0 : a0.eval (.tmp 0) = v := by rw [ha0]; rfl
 refine wrO [] slotsTix1 waitTix1 [Fct.val Flz 0 (v), Fct.val Flz 1 (.int .i64 (((L).length : Int))), Fct.val Flz 2 (.int .i64 0)] (fun w' => Below u0.heap.size u0 w') _ 3 0 chkTix1 (by kernel_rfl) (by kernel_rfl) (by kernel_rfl) (by decide) (Below.refl _ _) ?_ ?_
 ·refine lt_s (lt_s (lt_s (lt_0) ?_) ?_) ?_
  ·intro f w1 hS hf aA hA
   have r0 := qO 0 hA z0
   exact fV rfl rfl _ (ex_move (.tmp 0) rfl r0) hS uS
  ·intro f w1 hS hf aA hA
   have r6 := qA 6 0 hA sbTix1 zsz (hf 0 (by decide))
   obtain ⟨q9, c9, hv9, _⟩ := (HC.out.keep (HB.out.trans (hS.mono HB.out.size)))
   exact fV rfl rfl _ (ex_len 26 47 (.tmp 6) rfl (by kernel_rfl) q9 (L).length c9 (r6.trans hv9)) hS uS
  ·intro f w1 hS hf aA hA
   exact fV rfl rfl (.int .i64 0) (ex_move _ rfl rfl) hS uS
 intro f u1 hS hf hap
 have h0 : f 0 = v := hf 0 (by decide)
 have h1 := eqL (hf 1 (by decide)) rfl
 have h2 := eqL (hf 2 (by decide)) rfl
 clear hf hap
 clear zsz z0
 subst ha0
 simp only [slotsTix1, putAll, h0, h1, h2, Act.put, List.setIfInBounds_toArray, List.set_cons_zero, List.set_cons_succ]
 clear h0 h1 h2
 refine tl_nil ?_
 replace HB := Lib.hid (HB.out.trans (hS.mono HB.out.size))
 clear hS
 go_wp2_with fail
 go_loopw [8] (fun vi wr => ∃ i : Nat, i ≤ L.length ∧ vi = .int .i64 i ∧ idxZ L 0 = idxZ (L.drop i) i ∧ Below w.heap.size w wr) (fun vi _ => L.length - (intOf vi).toNat)
 case atStart => exact ⟨0, by omega, rfl, rfl, HB.out⟩
 case round =>
  clear HB
  rename_i wr
  obtain ⟨i, hi, rfl, he, hB⟩ := hrel
  have HE := Lib.hid he
  have HB := Lib.hid hB
  clear he hB
  by_cases hlt : i < L.length
  ·have HST := Lib.hid (idxZ_step L i hlt)
   obtain ⟨a, cp, hv, _, hc⟩ := (HC.out.keep HB.out).el hlt
   have HV := Lib.hid hv
   have HCC := Lib.hid hc
   have k3 : (i : Int) < (L.length : Int) := by omega
   clear hv hc
   go_upto_region 3 with fail
   refine wp_act (fun a0 ha0 => ?_)
   have zsz : a0.tmps.size = 19 := by rw [ha0]; rfl
   have z8 : a0.eval (.tmp 8) = .int .i64 ((i : Int)) := by rw [ha0]; rfl
   refine wrO [] slotsTix3 waitTix3 [Fct.val Flz 0 (.int .i64 ((i : Int))), Fct.val Flz 1 (.int .i64 ((i : Int)))] (fun w' => Below wr.heap.size wr w') _ 2 0 chkTix3 (by kernel_rfl) (by kernel_rfl) (by kernel_rfl) (by decide) (Below.refl _ _) ?_ ?_
   ·refine lt_s (lt_s (lt_0) ?_) ?_
    ·intro f w1 hS hf aA hA
     have r8 := qO 8 hA z8
     exact fV rfl rfl _ (ex_move (.tmp 8) rfl r8) hS uS
    ·intro f w1 hS hf aA hA
     have r10 := qA 10 0 hA sbTix3 zsz (hf 0 (by decide))
     exact fV rfl rfl _ (ex_assign (.tmp 10) rfl r10) hS uS
   intro f u3 hS hf hap
   have h0 := eqL (hf 0 (by decide)) rfl
   have h1 := eqL (hf 1 (by decide)) rfl
   clear hf hap
   clear zsz z8
   subst ha0
   simp only [slotsTix3, putAll, h0, h1, Act.put, List.setIfInBounds_toArray, List.set_cons_zero, List.set_cons_succ]
   clear h0 h1
   refine tl_nil ?_
   replace HB := Lib.hid (HB.out.trans (hS.mono HB.out.size))
   clear hS
   have HC3 : Hid (∀ w' : World, (∀ k, k < u3.heap.size → w'.heap[k]? = u3.heap[k]?) → ∀ j u, (encC L[i])[j]? = some u → w'.cell? ((a.add (i * 65)).add j) = some u) := Lib.hid (fun w' hw => by
    obtain ⟨a2, cp2, hv2, _, hc2⟩ := (HC.out.keep HB.out).el hlt
    have e := HV.out.symm.trans hv2
    simp only [Value.slice.injEq, Option.some.injEq, true_and] at e
    obtain ⟨rfl, rfl⟩ := e
    exact hc2 w' hw)
   by_cases hz : L[i] = zC
   ·have HZC := Lib.hid hz
    clear hz
    go_upto_region 4 with fail
    refine wp_act (fun a0 ha0 => ?_)
    have zsz : a0.tmps.size = 19 := by rw [ha0]; rfl
    have z1 : a0.eval (.tmp 1) = .func (.func 41) #[] #[] := by rw [ha0]; rfl
    have z0 : a0.eval (.tmp 0) = v := by rw [ha0]; rfl
    have z5 : a0.eval (.tmp 5) = .int .i64 ((i : Int)) := by rw [ha0]; rfl
    refine wrO [] slotsTix4f4 waitTix4f4 [Fct.val Flz 0 (.func (.func 41) #[] #[]), Fct.val Flz 1 (v), Fct.val Flz 2 (.int .i64 ((i : Int))), Fct.val Flz 3 (.pointer (some (a.add (i * 65)))), Fct.val Flz 4 (aggC ((L[i]))), Fct.val Flz 5 (.bool false)] (fun w' => Below u3.heap.size u3 w') _ 6 0 chkTix4f4 (by kernel_rfl) (by kernel_rfl) (by kernel_rfl) (by decide) (Below.refl _ _) ?_ ?_
    ·refine lt_s (lt_s (lt_s (lt_s (lt_s (lt_s (lt_0) ?_) ?_) ?_) ?_) ?_) ?_
     ·intro f w1 hS hf aA hA
      have r1 := qO 1 hA z1
      exact fV rfl rfl _ (ex_move (.tmp 1) rfl r1) hS uS
     ·intro f w1 hS hf aA hA
      have r0 := qO 0 hA z0
      exact fV rfl rfl _ (ex_move (.tmp 0) rfl r0) hS uS
     ·intro f w1 hS hf aA hA
      have r5 := qO 5 hA z5
      exact fV rfl rfl _ (ex_move (.tmp 5) rfl r5) hS uS
     ·intro f w1 hS hf aA hA
      have r12 := qA 12 1 hA sbTix4f4 zsz (hf 1 (by decide))
      have r13 := qA 13 2 hA sbTix4f4 zsz (hf 2 (by decide))
      exact fV rfl rfl _ (ex_indexS 26 47 (.tmp 12) (.tmp 13) rfl a L.length cp i 65 (by kernel_rfl) (fun _ => by kernel_rfl) (Eq.trans r12 HV.out) r13 hlt) hS uS
     ·intro f w1 hS hf aA hA
      have r14 := qA 14 3 hA sbTix4f4 zsz (hf 3 (by decide))
      exact fV rfl rfl _ (ex_loadR 47 (.tmp 14) rfl (a.add (i * 65)) r14 (fun _ => by kernel_rfl) (encC ((L[i]))) (by rw [encC_len]; kernel_rfl) (HC3.out w1 hS.block)) hS uS
     ·intro f w1 hS hf aA hA
      have r11 := qA 11 0 hA sbTix4f4 zsz (hf 0 (by decide))
      have r15 := qA 15 4 hA sbTix4f4 zsz (hf 4 (by decide))
      exact flw_callV rfl rfl 41 (.tmp 11) r11 #[(.tmp 15)] _ rfl #[aggC ((L[i]))] (mp1 r15) (fun w => by kernel_rfl) (fun v _ => v = .bool false) (as_any (zero1_any ((L[i])) w1) (congrArg Value.bool (by rw [HZC.out]; rfl))) (fun v w' hr hb => ⟨hS.trans (hb.mono hS.size), Flz.of hb, uS.trans hr⟩)
    intro f u4 hS hf hap
    have h0 := eqL (hf 0 (by decide)) rfl
    have h1 : f 1 = v := hf 1 (by decide)
    have h2 := eqL (hf 2 (by decide)) rfl
    have h3 := eqL (hf 3 (by decide)) rfl
    have h4 := eqL (hf 4 (by decide)) rfl
    have h5 := eqL (hf 5 (by decide)) rfl
    clear hf hap
    clear zsz z1 z0 z5
    subst ha0
    simp only [slotsTix4f4, putAll, h0, h1, h2, h3, h4, h5, Act.put, List.setIfInBounds_toArray, List.set_cons_zero, List.set_cons_succ]
    clear h0 h1 h2 h3 h4 h5
    refine tl_nil ?_
    replace HB := Lib.hid (HB.out.trans (hS.mono HB.out.size))
    clear hS
    go_wp2_with fail
    go_roundw
    case rel => exact ⟨i + 1, by omega, by go_num, by rw [HE.out, HST.out, if_pos HZC.out], HB.out⟩
    case measure => simp [intOf]; omega
   ·have HZC := Lib.hid hz
    clear hz
    go_upto_region 4 with fail
    refine wp_act (fun a0 ha0 => ?_)
    have zsz : a0.tmps.size = 19 := by rw [ha0]; rfl
    have z1 : a0.eval (.tmp 1) = .func (.func 41) #[] #[] := by rw [ha0]; rfl
    have z0 : a0.eval (.tmp 0) = v := by rw [ha0]; rfl
    have z5 : a0.eval (.tmp 5) = .int .i64 ((i : Int)) := by rw [ha0]; rfl
    refine wrO [] slotsTix4f4 waitTix4f4 [Fct.val Flz 0 (.func (.func 41) #[] #[]), Fct.val Flz 1 (v), Fct.val Flz 2 (.int .i64 ((i : Int))), Fct.val Flz 3 (.pointer (some (a.add (i * 65)))), Fct.val Flz 4 (aggC ((L[i]))), Fct.val Flz 5 (.bool true)] (fun w' => Below u3.heap.size u3 w') _ 6 0 chkTix4f4 (by kernel_rfl) (by kernel_rfl) (by kernel_rfl) (by decide) (Below.refl _ _) ?_ ?_
    ·refine lt_s (lt_s (lt_s (lt_s (lt_s (lt_s (lt_0) ?_) ?_) ?_) ?_) ?_) ?_
     ·intro f w1 hS hf aA hA
      have r1 := qO 1 hA z1
      exact fV rfl rfl _ (ex_move (.tmp 1) rfl r1) hS uS
     ·intro f w1 hS hf aA hA
      have r0 := qO 0 hA z0
      exact fV rfl rfl _ (ex_move (.tmp 0) rfl r0) hS uS
     ·intro f w1 hS hf aA hA
      have r5 := qO 5 hA z5
      exact fV rfl rfl _ (ex_move (.tmp 5) rfl r5) hS uS
     ·intro f w1 hS hf aA hA
      have r12 := qA 12 1 hA sbTix4f4 zsz (hf 1 (by decide))
      have r13 := qA 13 2 hA sbTix4f4 zsz (hf 2 (by decide))
      exact fV rfl rfl _ (ex_indexS 26 47 (.tmp 12) (.tmp 13) rfl a L.length cp i 65 (by kernel_rfl) (fun _ => by kernel_rfl) (Eq.trans r12 HV.out) r13 hlt) hS uS
     ·intro f w1 hS hf aA hA
      have r14 := qA 14 3 hA sbTix4f4 zsz (hf 3 (by decide))
      exact fV rfl rfl _ (ex_loadR 47 (.tmp 14) rfl (a.add (i * 65)) r14 (fun _ => by kernel_rfl) (encC ((L[i]))) (by rw [encC_len]; kernel_rfl) (HC3.out w1 hS.block)) hS uS
     ·intro f w1 hS hf aA hA
      have r11 := qA 11 0 hA sbTix4f4 zsz (hf 0 (by decide))
      have r15 := qA 15 4 hA sbTix4f4 zsz (hf 4 (by decide))
      exact flw_callV rfl rfl 41 (.tmp 11) r11 #[(.tmp 15)] _ rfl #[aggC ((L[i]))] (mp1 r15) (fun w => by kernel_rfl) (fun v _ => v = .bool true) (as_any (zero1_any ((L[i])) w1) (congrArg Value.bool (by rw [decide_eq_false HZC.out]; rfl))) (fun v w' hr hb => ⟨hS.trans (hb.mono hS.size), Flz.of hb, uS.trans hr⟩)
    intro f u4 hS hf hap
    have h0 := eqL (hf 0 (by decide)) rfl
    have h1 : f 1 = v := hf 1 (by decide)
    have h2 := eqL (hf 2 (by decide)) rfl
    have h3 := eqL (hf 3 (by decide)) rfl
    have h4 := eqL (hf 4 (by decide)) rfl
    have h5 := eqL (hf 5 (by decide)) rfl
    clear hf hap
    clear zsz z1 z0 z5
    subst ha0
    simp only [slotsTix4f4, putAll, h0, h1, h2, h3, h4, h5, Act.put, List.setIfInBounds_toArray, List.set_cons_zero, List.set_cons_succ]
    clear h0 h1 h2 h3 h4 h5
    refine tl_nil ?_
    replace HB := Lib.hid (HB.out.trans (hS.mono HB.out.size))
    clear hS
    go_wp2_with fail
    go_ret
    exact ⟨⟨_, rfl, (show Value.int .i64 (i : Int) = _ by rw [HE.out, HST.out, if_neg HZC.out])⟩, HB.out⟩
  ·obtain rfl : i = L.length := by omega
   have k3 : ¬ (L.length : Int) < (L.length : Int) := by omega
   go_wp2_with fail
   go_ret
   exact ⟨congrArg Ending.returned (show Value.int .i64 (-1) = Value.int .i64 (idxZ L 0) by rw [HE.out, List.drop_length]; rfl), HB.out⟩
theorem indexZ_any (v : Value) (L : List Ce) (w : World) (hM : L.length ≤ 1000000) (hC : Cs w v L) : Calls Tryd.prog 66 #[v, .func (.func 41) #[] #[]] w fun e w' => (∃ v, e = .returned v ∧ v = .int .i64 (idxZ L 0)) ∧ Below w.heap.size w w' := indexZ_b v L w w (Below.refl _ _) hM hC
def waitThz0 (i : Nat) : List Nat := ([[]] : List (List Nat)).getD i []
def slotsThz0 : List (Nat × Nat) := [(4, 0)]
theorem chkThz0 : flwO slotsThz0 waitThz0 1 (regOf Tryd.f40.body 0) = true := by kernel_rfl
def waitThz1 (i : Nat) : List Nat := ([[], [], [0, 1], [2], [3]] : List (List Nat)).getD i []
def slotsThz1 : List (Nat × Nat) := [(5, 0), (6, 1), (7, 2), (8, 3), (4, 4)]
theorem sbThz1 : slotsB slotsThz1 = true := by kernel_rfl
theorem chkThz1 : flwO slotsThz1 waitThz1 5 (regOf Tryd.f40.body 1) = true := by kernel_rfl
set_option maxHeartbeats 8000000 in
set_option maxRecDepth 100000 in
theorem hasZ_b (v : Value) (L : List Ce) (w w0 : World) (hB : Below w.heap.size w w0) (hM : L.length ≤ 1000000) (hC : Cs w v L) : Calls Tryd.prog 40 #[v, .func (.func 41) #[] #[]] w0 fun e w' => (∃ v, e = .returned v ∧ v = .bool (decide (idxZ L 0 ≥ (0 : Int)))) ∧ Below w.heap.size w w' := by
 go_enter Tryd.func40, Tryd.ntmps40
 have HB := Lib.hid hB
 clear hB
 have HC := Lib.hid hC
 clear hC
 go_upto_region 0 with fail
 refine wp_act (fun a0 ha0 => ?_)
 have zsz : a0.tmps.size = 9 := by rw [ha0]; rfl
 refine wrO [] slotsThz0 waitThz0 [Fct.val Flz 0 (.bool false)] (fun w' => Below w0.heap.size w0 w') _ 1 0 chkThz0 (by kernel_rfl) (by kernel_rfl) (by kernel_rfl) (by decide) (Below.refl _ _) ?_ ?_
 ·refine lt_s (lt_0) ?_
  ·intro f w1 hS hf aA hA
   exact fV rfl rfl (.bool false) (ex_assign _ rfl rfl) hS uS
 intro f u0 hS hf hap
 have h0 := eqL (hf 0 (by decide)) rfl
 clear hf hap
 clear zsz
 subst ha0
 simp only [slotsThz0, putAll, h0, Act.put, List.setIfInBounds_toArray, List.set_cons_zero, List.set_cons_succ]
 clear h0
 refine tl_nil ?_
 replace HB := Lib.hid (HB.out.trans (hS.mono HB.out.size))
 clear hS
 go_upto_region 1 with fail
 refine wp_act (fun a0 ha0 => ?_)
 have zsz : a0.tmps.size = 9 := by rw [ha0]; rfl
 have z0 : a0.eval (.tmp 0) = v := by rw [ha0]; rfl
 have z1 : a0.eval (.tmp 1) = .func (.func 41) #[] #[] := by rw [ha0]; rfl
 refine wrO [] slotsThz1 waitThz1 [Fct.val Flz 0 (v), Fct.val Flz 1 (.func (.func 41) #[] #[]), Fct.val Flz 2 (.int .i64 (idxZ L 0)), Fct.val Flz 3 (.bool (decide ((idxZ L 0) ≥ (0 : Int)))), Fct.val Flz 4 (.bool (decide ((idxZ L 0) ≥ (0 : Int))))] (fun w' => Below u0.heap.size u0 w') _ 5 0 chkThz1 (by kernel_rfl) (by kernel_rfl) (by kernel_rfl) (by decide) (Below.refl _ _) ?_ ?_
 ·refine lt_s (lt_s (lt_s (lt_s (lt_s (lt_0) ?_) ?_) ?_) ?_) ?_
  ·intro f w1 hS hf aA hA
   have r0 := qO 0 hA z0
   exact fV rfl rfl _ (ex_move (.tmp 0) rfl r0) hS uS
  ·intro f w1 hS hf aA hA
   have r1 := qO 1 hA z1
   exact fV rfl rfl _ (ex_move (.tmp 1) rfl r1) hS uS
  ·intro f w1 hS hf aA hA
   have r5 := qA 5 0 hA sbThz1 zsz (hf 0 (by decide))
   have r6 := qA 6 1 hA sbThz1 zsz (hf 1 (by decide))
   exact fC rfl rfl 66 #[(.tmp 5), (.tmp 6)] _ rfl #[v, .func (.func 41) #[] #[]] (mp2 r5 r6) (fun w => by kernel_rfl) _ (indexZ_any _ L w1 hM (HC.out.keep (HB.out.trans (hS.mono HB.out.size)))) hS (fun _ _ h => uS.trans h)
  ·intro f w1 hS hf aA hA
   have r7 := qA 7 2 hA sbThz1 zsz (hf 2 (by decide))
   exact fV rfl rfl _ (ex_int .geq _ _ (.tmp 7) _ rfl .i64 (idxZ L 0) 0 r7 rfl (.bool (decide ((idxZ L 0) ≥ (0 : Int)))) (fun _ => rfl)) hS uS
  ·intro f w1 hS hf aA hA
   have r8 := qA 8 3 hA sbThz1 zsz (hf 3 (by decide))
   exact fV rfl rfl _ (ex_assign (.tmp 8) rfl r8) hS uS
 intro f u1 hS hf hap
 have h0 : f 0 = v := hf 0 (by decide)
 have h1 := eqL (hf 1 (by decide)) rfl
 have h2 := eqL (hf 2 (by decide)) rfl
 have h3 := eqL (hf 3 (by decide)) rfl
 have h4 := eqL (hf 4 (by decide)) rfl
 clear hf hap
 clear zsz z0 z1
 subst ha0
 simp only [slotsThz1, putAll, h0, h1, h2, h3, h4, Act.put, List.setIfInBounds_toArray, List.set_cons_zero, List.set_cons_succ]
 clear h0 h1 h2 h3 h4
 refine tl_nil ?_
 replace HB := Lib.hid (HB.out.trans (hS.mono HB.out.size))
 clear hS
 go_wp2_with fail
 go_ret
 exact ⟨⟨_, rfl, rfl⟩, HB.out⟩
theorem hasZ_any (v : Value) (L : List Ce) (w : World) (hM : L.length ≤ 1000000) (hC : Cs w v L) : Calls Tryd.prog 40 #[v, .func (.func 41) #[] #[]] w fun e w' => (∃ v, e = .returned v ∧ v = .bool (decide (idxZ L 0 ≥ (0 : Int)))) ∧ Below w.heap.size w w' := hasZ_b v L w w (Below.refl _ _) hM hC
def waitTzef1 (i : Nat) : List Nat := ([[], [0], [1], [2], [2], [2], [2], [2, 6], [7]] : List (List Nat)).getD i []
def slotsTzef1 : List (Nat × Nat) := [(3, 0), (4, 1), (5, 2), (6, 3), (7, 4), (8, 5), (9, 6), (10, 7), (2, 8)]
theorem sbTzef1 : slotsB slotsTzef1 = true := by kernel_rfl
theorem chkTzef1 : flwO slotsTzef1 waitTzef1 9 (regOf Tryd.f16.body 1) = true := by kernel_rfl
def waitTzet1 (i : Nat) : List Nat := ([[], [0], [1], [2], [2, 3], [2, 4], [2, 5], [2, 6], [7]] : List (List Nat)).getD i []
def slotsTzet1 : List (Nat × Nat) := [(3, 0), (4, 1), (5, 2), (6, 3), (7, 4), (8, 5), (9, 6), (10, 7), (2, 8)]
theorem sbTzet1 : slotsB slotsTzet1 = true := by kernel_rfl
theorem chkTzet1 : flwO slotsTzet1 waitTzet1 9 (regOf Tryd.f16.body 1) = true := by kernel_rfl
set_option maxHeartbeats 8000000 in
set_option maxRecDepth 100000 in
theorem zeroT_b (s : Nat) (v : Value) (L : List Ce) (w w0 : World) (hB : Below w.heap.size w w0) (hM : L.length ≤ 1000000) (hC : Cs w v L) : Calls Tryd.prog 16 #[.agg #[.int .u64 (s : Int), v]] w0 fun e w' => (∃ v, e = .returned v ∧ v = .bool (zeroT L)) ∧ Below w.heap.size w w' := by
 go_enter Tryd.func16, Tryd.ntmps16
 have HB := Lib.hid hB
 clear hB
 have HC := Lib.hid hC
 clear hC
 go_upto_region 0 with fail
 refine wp_region_lit ?_
 try simp only [Act.put, List.setIfInBounds_toArray, List.set_cons_zero, List.set_cons_succ]
 refine lp_step rfl (fun K hK => wp_box_row 28 (.tmp 0) rfl (.agg #[.int .u64 (s : Int), v]) rfl (hK _ _ ?_))
 try simp only [Act.put, List.setIfInBounds_toArray, List.set_cons_zero, List.set_cons_succ]
 show wpList _ _ _ _ _ (w0.alloc (.cells (([.int .u64 (s : Int), v] : List Value)).toArray 28))
 have HST : Hid (Below w0.heap.size w0 (w0.alloc (.cells (([.int .u64 (s : Int), v] : List Value)).toArray 28))) := Lib.hid ((Below.refl _ _).alloc (Nat.le_refl _) _)
 have HX1 : Hid (Has (w0.alloc (.cells (([.int .u64 (s : Int), v] : List Value)).toArray 28)) w0.heap.size 28 ([.int .u64 (s : Int), v])) := Lib.hid (Has.made' _ _ _ _ rfl)
 have HGg1 : Hid (w.heap.size ≤ w0.heap.size) := Lib.hid HB.out.size
 replace HB := Lib.hid (HB.out.trans (HST.out.mono HB.out.size))
 clear HST
 generalize w0.alloc (.cells (([.int .u64 (s : Int), v] : List Value)).toArray 28) = w1 at *
 generalize w0.heap.size = g1 at *
 refine lp_pure (v := .bool false) rfl (ex_assign _ rfl rfl) ?_
 try simp only [Act.put, List.setIfInBounds_toArray, List.set_cons_zero, List.set_cons_succ]
 refine wpList_nil ?_
 obtain ⟨gd, hgd⟩ : ∃ gd, goodN (L.length : Int) = gd := ⟨_, rfl⟩
 have HGD := Lib.hid hgd
 clear hgd
 cases gd
 ·go_upto_region 1 with fail
  refine wp_act (fun a0 ha0 => ?_)
  have zsz : a0.tmps.size = 11 := by rw [ha0]; rfl
  have z1 : a0.eval (.tmp 1) = .pointer (some ⟨g1, 0, none⟩) := by rw [ha0]; rfl
  refine wrO [] slotsTzef1 waitTzef1 [Fct.val Flz 0 (.agg #[.int .u64 (s : Int), v]), Fct.val Flz 1 (.bool false), Fct.val Flz 2 (.bool false), Fct.val Flz 3 (undef), Fct.val Flz 4 (undef), Fct.val Flz 5 (undef), Fct.val Flz 6 (undef), Fct.val Flz 7 (.bool false), Fct.val Flz 8 (.bool false)] (fun w' => Below w1.heap.size w1 w') _ 9 0 chkTzef1 (by kernel_rfl) (by kernel_rfl) (by kernel_rfl) (by decide) (Below.refl _ _) ?_ ?_
  ·refine lt_s (lt_s (lt_s (lt_s (lt_s (lt_s (lt_s (lt_s (lt_s (lt_0) ?_) ?_) ?_) ?_) ?_) ?_) ?_) ?_) ?_
   ·intro f w1 hS hf aA hA
    have r1 := qO 1 hA z1
    exact fV rfl rfl _ (ex_loadR 28 (.tmp 1) rfl ⟨g1, 0, none⟩ r1 (fun _ => by kernel_rfl) [.int .u64 (s : Int), v] (by kernel_rfl) ((HX1.out.keepB hS).part [.int .u64 (s : Int), v] 0 (fun j u hu => by rw [Nat.zero_add]; exact hu))) hS uS
   ·intro f w1 hS hf aA hA
    have r3 := qA 3 0 hA sbTzef1 zsz (hf 0 (by decide))
    exact fC rfl rfl 25 #[(.tmp 3)] _ rfl #[.agg #[.int .u64 (s : Int), v]] (mp1 r3) (fun w => by kernel_rfl) _ (as_any (goodT_any _ _ _ w1 (HC.out.keep (HB.out.trans (hS.mono HB.out.size)))) (congrArg Value.bool HGD.out)) hS (fun _ _ h => uS.trans h)
   ·intro f w1 hS hf aA hA
    have r4 := qA 4 1 hA sbTzef1 zsz (hf 1 (by decide))
    exact fV rfl rfl _ (ex_move (.tmp 4) rfl r4) hS uS
   ·intro f w1 hS hf aA hA
    have t5 := qG 5 2 hA sbTzef1 zsz (hf 2 (by decide))
    exact flw_skip rfl ((wanted_of rfl 5 rfl t5).trans rfl) hS (Flz.refl _) uS
   ·intro f w1 hS hf aA hA
    have t5 := qG 5 2 hA sbTzef1 zsz (hf 2 (by decide))
    exact flw_skip rfl ((wanted_of rfl 5 rfl t5).trans rfl) hS (Flz.refl _) uS
   ·intro f w1 hS hf aA hA
    have t5 := qG 5 2 hA sbTzef1 zsz (hf 2 (by decide))
    exact flw_skip rfl ((wanted_of rfl 5 rfl t5).trans rfl) hS (Flz.refl _) uS
   ·intro f w1 hS hf aA hA
    have t5 := qG 5 2 hA sbTzef1 zsz (hf 2 (by decide))
    exact flw_skip rfl ((wanted_of rfl 5 rfl t5).trans rfl) hS (Flz.refl _) uS
   ·intro f w1 hS hf aA hA
    have r5 := qA 5 2 hA sbTzef1 zsz (hf 2 (by decide))
    exact fV rfl rfl (.bool false) (ex_pick (.tmp 5) (.tmp 9) _ rfl false r5 ((if_neg (by decide)).trans rfl)) hS uS
   ·intro f w1 hS hf aA hA
    have r10 := qA 10 7 hA sbTzef1 zsz (hf 7 (by decide))
    exact fV rfl rfl _ (ex_assign (.tmp 10) rfl r10) hS uS
  intro f u1 hS hf hap
  have h0 := eqL (hf 0 (by decide)) rfl
  have h1 := eqL (hf 1 (by decide)) rfl
  have h2 := eqL (hf 2 (by decide)) rfl
  have h3 := eqL (hf 3 (by decide)) rfl
  have h4 := eqL (hf 4 (by decide)) rfl
  have h5 := eqL (hf 5 (by decide)) rfl
  have h6 := eqL (hf 6 (by decide)) rfl
  have h7 := eqL (hf 7 (by decide)) rfl
  have h8 := eqL (hf 8 (by decide)) rfl
  clear hf hap
  clear zsz z1
  subst ha0
  simp only [slotsTzef1, putAll, h0, h1, h2, h3, h4, h5, h6, h7, h8, Act.put, List.setIfInBounds_toArray, List.set_cons_zero, List.set_cons_succ]
  clear h0 h1 h2 h3 h4 h5 h6 h7 h8
  refine tl_nil ?_
  replace HX1 := Lib.hid (HX1.out.keepB hS)
  replace HB := Lib.hid (HB.out.trans (hS.mono HB.out.size))
  clear hS
  go_wp2_with fail
  go_ret
  exact ⟨⟨_, rfl, (show Value.bool false = _ by unfold zeroT; rw [HGD.out]; rfl)⟩, HB.out⟩
 ·go_upto_region 1 with fail
  refine wp_act (fun a0 ha0 => ?_)
  have zsz : a0.tmps.size = 11 := by rw [ha0]; rfl
  have z1 : a0.eval (.tmp 1) = .pointer (some ⟨g1, 0, none⟩) := by rw [ha0]; rfl
  refine wrO [] slotsTzet1 waitTzet1 [Fct.val Flz 0 (.agg #[.int .u64 (s : Int), v]), Fct.val Flz 1 (.bool true), Fct.val Flz 2 (.bool true), Fct.val Flz 3 (.pointer (some ⟨g1, 1, none⟩)), Fct.val Flz 4 (v), Fct.val Flz 5 (.bool (decide (idxZ L 0 ≥ (0 : Int)))), Fct.val Flz 6 (.bool (!(decide (idxZ L 0 ≥ (0 : Int))))), Fct.val Flz 7 (.bool (!(decide (idxZ L 0 ≥ (0 : Int))))), Fct.val Flz 8 (.bool (!(decide (idxZ L 0 ≥ (0 : Int)))))] (fun w' => Below w1.heap.size w1 w') _ 9 0 chkTzet1 (by kernel_rfl) (by kernel_rfl) (by kernel_rfl) (by decide) (Below.refl _ _) ?_ ?_
  ·refine lt_s (lt_s (lt_s (lt_s (lt_s (lt_s (lt_s (lt_s (lt_s (lt_0) ?_) ?_) ?_) ?_) ?_) ?_) ?_) ?_) ?_
   ·intro f w1 hS hf aA hA
    have r1 := qO 1 hA z1
    exact fV rfl rfl _ (ex_loadR 28 (.tmp 1) rfl ⟨g1, 0, none⟩ r1 (fun _ => by kernel_rfl) [.int .u64 (s : Int), v] (by kernel_rfl) ((HX1.out.keepB hS).part [.int .u64 (s : Int), v] 0 (fun j u hu => by rw [Nat.zero_add]; exact hu))) hS uS
   ·intro f w1 hS hf aA hA
    have r3 := qA 3 0 hA sbTzet1 zsz (hf 0 (by decide))
    exact fC rfl rfl 25 #[(.tmp 3)] _ rfl #[.agg #[.int .u64 (s : Int), v]] (mp1 r3) (fun w => by kernel_rfl) _ (as_any (goodT_any _ _ _ w1 (HC.out.keep (HB.out.trans (hS.mono HB.out.size)))) (congrArg Value.bool HGD.out)) hS (fun _ _ h => uS.trans h)
   ·intro f w1 hS hf aA hA
    have r4 := qA 4 1 hA sbTzet1 zsz (hf 1 (by decide))
    exact fV rfl rfl _ (ex_move (.tmp 4) rfl r4) hS uS
   ·intro f w1 hS hf aA hA
    have t5 := qG 5 2 hA sbTzet1 zsz (hf 2 (by decide))
    have r1 := qO 1 hA z1
    exact fV rfl ((wanted_of rfl 5 rfl t5).trans rfl) _ (fldT1 28 (Or.inl rfl) (.tmp 1) rfl g1 r1) hS uS
   ·intro f w1 hS hf aA hA
    have t5 := qG 5 2 hA sbTzet1 zsz (hf 2 (by decide))
    have r6 := qA 6 3 hA sbTzet1 zsz (hf 3 (by decide))
    exact fV rfl ((wanted_of rfl 5 rfl t5).trans rfl) _ (ex_load1 26 (.tmp 6) rfl ⟨g1, 1, none⟩ r6 (fun _ => by kernel_rfl) ((HX1.out.keepB hS).cellv rfl)) hS uS
   ·intro f w1 hS hf aA hA
    have t5 := qG 5 2 hA sbTzet1 zsz (hf 2 (by decide))
    have r7 := qA 7 4 hA sbTzet1 zsz (hf 4 (by decide))
    exact fC rfl ((wanted_of rfl 5 rfl t5).trans rfl) 40 #[(.tmp 7), _] _ rfl #[v, .func (.func 41) #[] #[]] (by simp only [List.map_toArray, List.map_cons, List.map_nil, r7]; rfl) (fun w => by kernel_rfl) _ (hasZ_any _ L w1 hM (HC.out.keep (HB.out.trans (hS.mono HB.out.size)))) hS (fun _ _ h => uS.trans h)
   ·intro f w1 hS hf aA hA
    have t5 := qG 5 2 hA sbTzet1 zsz (hf 2 (by decide))
    have r8 := qA 8 5 hA sbTzet1 zsz (hf 5 (by decide))
    exact fV rfl ((wanted_of rfl 5 rfl t5).trans rfl) _ (ex_not _ (.tmp 8) rfl r8) hS uS
   ·intro f w1 hS hf aA hA
    have r5 := qA 5 2 hA sbTzet1 zsz (hf 2 (by decide))
    have r9 := qA 9 6 hA sbTzet1 zsz (hf 6 (by decide))
    exact fV rfl rfl (.bool (!(decide (idxZ L 0 ≥ (0 : Int))))) (ex_pick (.tmp 5) (.tmp 9) _ rfl true r5 ((if_pos rfl).trans r9)) hS uS
   ·intro f w1 hS hf aA hA
    have r10 := qA 10 7 hA sbTzet1 zsz (hf 7 (by decide))
    exact fV rfl rfl _ (ex_assign (.tmp 10) rfl r10) hS uS
  intro f u1 hS hf hap
  have h0 := eqL (hf 0 (by decide)) rfl
  have h1 := eqL (hf 1 (by decide)) rfl
  have h2 := eqL (hf 2 (by decide)) rfl
  have h3 := eqL (hf 3 (by decide)) rfl
  have h4 : f 4 = v := hf 4 (by decide)
  have h5 := eqL (hf 5 (by decide)) rfl
  have h6 := eqL (hf 6 (by decide)) rfl
  have h7 := eqL (hf 7 (by decide)) rfl
  have h8 := eqL (hf 8 (by decide)) rfl
  clear hf hap
  clear zsz z1
  subst ha0
  simp only [slotsTzet1, putAll, h0, h1, h2, h3, h4, h5, h6, h7, h8, Act.put, List.setIfInBounds_toArray, List.set_cons_zero, List.set_cons_succ]
  clear h0 h1 h2 h3 h4 h5 h6 h7 h8
  refine tl_nil ?_
  replace HX1 := Lib.hid (HX1.out.keepB hS)
  replace HB := Lib.hid (HB.out.trans (hS.mono HB.out.size))
  clear hS
  go_wp2_with fail
  go_ret
  exact ⟨⟨_, rfl, (show Value.bool (!decide (idxZ L 0 ≥ (0 : Int))) = _ by rw [zeroT_eq L HGD.out])⟩, HB.out⟩
theorem zeroT_any (s : Nat) (v : Value) (L : List Ce) (w : World) (hM : L.length ≤ 1000000) (hC : Cs w v L) : Calls Tryd.prog 16 #[.agg #[.int .u64 (s : Int), v]] w fun e w' => (∃ v, e = .returned v ∧ v = .bool (zeroT L)) ∧ Below w.heap.size w w' := zeroT_b s v L w w (Below.refl _ _) hM hC
end Go.Proofs.YtnkcehmgagpadaaDoor
/- Contract: the law's own sameT. Condition: at most 10^6 cells. -/
namespace Go.Proofs.YtnkcehmgagpadaaDoor
open Go.RowKit
def waitTssg1 (i : Nat) : List Nat := ([[], [0], [], [2], [1, 3], [4], [5], [5, 6], [5, 7], [5], [5, 9], [5, 10], [5, 8, 11], [5, 12]] : List (List Nat)).getD i []
def slotsTssg1 : List (Nat × Nat) := [(6, 0), (7, 1), (8, 2), (9, 3), (10, 4), (11, 5), (12, 6), (13, 7), (14, 8), (15, 9), (16, 10), (17, 11), (18, 12), (19, 13)]
theorem sbTssg1 : slotsB slotsTssg1 = true := by kernel_rfl
theorem chkTssg1 : flwO slotsTssg1 waitTssg1 14 (regOf Tryd.f17.body 1) = true := by kernel_rfl
def waitTssl4 (i : Nat) : List Nat := ([[], [], [1], [2], [0, 3]] : List (List Nat)).getD i []
def slotsTssl4 : List (Nat × Nat) := [(20, 0), (21, 1), (22, 2), (23, 3), (24, 4)]
theorem sbTssl4 : slotsB slotsTssl4 = true := by kernel_rfl
theorem chkTssl4 : flwO slotsTssl4 waitTssl4 5 (regOf Tryd.f17.body 4) = true := by kernel_rfl
def waitTss6 (i : Nat) : List Nat := ([[], [0], [], [1, 2], [3], [], [5], [], [6, 7], [8], [4, 9]] : List (List Nat)).getD i []
def slotsTss6 : List (Nat × Nat) := [(27, 0), (28, 1), (29, 2), (30, 3), (31, 4), (32, 5), (33, 6), (34, 7), (35, 8), (36, 9), (37, 10)]
theorem sbTss6 : slotsB slotsTss6 = true := by kernel_rfl
theorem chkTss6 : flwB slotsTss6 waitTss6 11 (regOf Tryd.f17.body 6) = true := by kernel_rfl
set_option maxHeartbeats 8000000 in
set_option maxRecDepth 100000 in
theorem sameT_b (s : Nat) (u : Value) (A : List Ce) (v : Value) (w w0 : World) (hB : Below w.heap.size w w0) (hM : A.length ≤ 1000000) (hA : Cs w u A) (hV : Cs w v A) : Calls Tryd.prog 17 #[.agg #[.int .u64 (s : Int), u], .agg #[.int .u64 (s : Int), v]] w0 fun e w' => (∃ v, e = .returned v ∧ v = .bool true) ∧ Below w.heap.size w w' := by
 go_enter Tryd.func17, Tryd.ntmps17
 have HB := Lib.hid hB
 clear hB
 have HA := Lib.hid hA
 have HV := Lib.hid hV
 clear hA hV
 go_upto_region 0 with fail
 refine wp_region_lit ?_
 try simp only [Act.put, List.setIfInBounds_toArray, List.set_cons_zero, List.set_cons_succ]
 refine lp_step rfl (fun K hK => wp_box_row 52 (.tmp 0) rfl (.agg #[.int .u64 (s : Int), u]) rfl (hK _ _ ?_))
 try simp only [Act.put, List.setIfInBounds_toArray, List.set_cons_zero, List.set_cons_succ]
 show wpList _ _ _ _ _ (w0.alloc (.cells (([.int .u64 (s : Int), u] : List Value)).toArray 52))
 have HST : Hid (Below w0.heap.size w0 (w0.alloc (.cells (([.int .u64 (s : Int), u] : List Value)).toArray 52))) := Lib.hid ((Below.refl _ _).alloc (Nat.le_refl _) _)
 have HX1 : Hid (Has (w0.alloc (.cells (([.int .u64 (s : Int), u] : List Value)).toArray 52)) w0.heap.size 52 ([.int .u64 (s : Int), u])) := Lib.hid (Has.made' _ _ _ _ rfl)
 have HGg1 : Hid (w.heap.size ≤ w0.heap.size) := Lib.hid HB.out.size
 replace HB := Lib.hid (HB.out.trans (HST.out.mono HB.out.size))
 clear HST
 generalize w0.alloc (.cells (([.int .u64 (s : Int), u] : List Value)).toArray 52) = w1 at *
 generalize w0.heap.size = g1 at *
 refine lp_step rfl (fun K hK => wp_box_row 52 (.tmp 1) rfl (.agg #[.int .u64 (s : Int), v]) rfl (hK _ _ ?_))
 try simp only [Act.put, List.setIfInBounds_toArray, List.set_cons_zero, List.set_cons_succ]
 show wpList _ _ _ _ _ (w1.alloc (.cells (([.int .u64 (s : Int), v] : List Value)).toArray 52))
 have HST : Hid (Below w1.heap.size w1 (w1.alloc (.cells (([.int .u64 (s : Int), v] : List Value)).toArray 52))) := Lib.hid ((Below.refl _ _).alloc (Nat.le_refl _) _)
 have HLT_g1_g2 : Hid (g1 < w1.heap.size) := Lib.hid HX1.out.lt
 have HNE_g1_g2 : Hid (g1 ≠ w1.heap.size) := Lib.hid (Nat.ne_of_lt HX1.out.lt)
 have HX2 : Hid (Has (w1.alloc (.cells (([.int .u64 (s : Int), v] : List Value)).toArray 52)) w1.heap.size 52 ([.int .u64 (s : Int), v])) := Lib.hid (Has.made' _ _ _ _ rfl)
 replace HX1 := Lib.hid (HX1.out.keepB HST.out)
 have HGg2 : Hid (w.heap.size ≤ w1.heap.size) := Lib.hid HB.out.size
 replace HB := Lib.hid (HB.out.trans (HST.out.mono HB.out.size))
 clear HST
 generalize w1.alloc (.cells (([.int .u64 (s : Int), v] : List Value)).toArray 52) = w2 at *
 generalize w1.heap.size = g2 at *
 refine lp_pure (v := .bool false) rfl (ex_assign _ rfl rfl) ?_
 try simp only [Act.put, List.setIfInBounds_toArray, List.set_cons_zero, List.set_cons_succ]
 refine wpList_nil ?_
 go_upto_region 1 with fail
 refine wp_act (fun a0 ha0 => ?_)
 have zsz : a0.tmps.size = 38 := by rw [ha0]; rfl
 have z2 : a0.eval (.tmp 2) = .pointer (some ⟨g1, 0, none⟩) := by rw [ha0]; rfl
 have z3 : a0.eval (.tmp 3) = .pointer (some ⟨g2, 0, none⟩) := by rw [ha0]; rfl
 refine wrO [] slotsTssg1 waitTssg1 [Fct.val Flz 0 (.pointer (some ⟨g1, 0, none⟩)), Fct.val Flz 1 (.int .u64 (s : Int)), Fct.val Flz 2 (.pointer (some ⟨g2, 0, none⟩)), Fct.val Flz 3 (.int .u64 (s : Int)), Fct.val Flz 4 (.bool false), Fct.val Flz 5 (.bool false), Fct.val Flz 6 (.pointer (some ⟨g1, 1, none⟩)), Fct.val Flz 7 (u), Fct.val Flz 8 (.int .i64 (((A).length : Int))), Fct.val Flz 9 (.pointer (some ⟨g2, 1, none⟩)), Fct.val Flz 10 (v), Fct.val Flz 11 (.int .i64 (((A).length : Int))), Fct.val Flz 12 (.bool false), Fct.val Flz 13 (.bool false)] (fun w' => Below w2.heap.size w2 w') _ 14 0 chkTssg1 (by kernel_rfl) (by kernel_rfl) (by kernel_rfl) (by decide) (Below.refl _ _) ?_ ?_
 ·refine lt_s (lt_s (lt_s (lt_s (lt_s (lt_s (lt_s (lt_s (lt_s (lt_s (lt_s (lt_s (lt_s (lt_s (lt_0) ?_) ?_) ?_) ?_) ?_) ?_) ?_) ?_) ?_) ?_) ?_) ?_) ?_) ?_
  ·intro f w1 hS hf aA hA
   have r2 := qO 2 hA z2
   exact fV rfl rfl _ (fldT0 52 (Or.inr rfl) (.tmp 2) rfl g1 r2) hS uS
  ·intro f w1 hS hf aA hA
   have r6 := qA 6 0 hA sbTssg1 zsz (hf 0 (by decide))
   exact fV rfl rfl _ (ex_load1 25 (.tmp 6) rfl ⟨g1, 0, none⟩ r6 (fun _ => by kernel_rfl) ((HX1.out.keepB hS).cellv rfl)) hS uS
  ·intro f w1 hS hf aA hA
   have r3 := qO 3 hA z3
   exact fV rfl rfl _ (fldT0 52 (Or.inr rfl) (.tmp 3) rfl g2 r3) hS uS
  ·intro f w1 hS hf aA hA
   have r8 := qA 8 2 hA sbTssg1 zsz (hf 2 (by decide))
   exact fV rfl rfl _ (ex_load1 25 (.tmp 8) rfl ⟨g2, 0, none⟩ r8 (fun _ => by kernel_rfl) ((HX2.out.keepB hS).cellv rfl)) hS uS
  ·intro f w1 hS hf aA hA
   have r7 := qA 7 1 hA sbTssg1 zsz (hf 1 (by decide))
   have r9 := qA 9 3 hA sbTssg1 zsz (hf 3 (by decide))
   exact fV rfl rfl _ (Eq.trans (ex_int .neq _ _ (.tmp 7) (.tmp 9) rfl .u64 ((s : Int)) ((s : Int)) r7 r9 (.bool (((s : Int)) != ((s : Int)))) (fun _ => rfl)) (by rw [(bne_self_eq_false (s : Int))])) hS uS
  ·intro f w1 hS hf aA hA
   have r10 := qA 10 4 hA sbTssg1 zsz (hf 4 (by decide))
   exact fV rfl rfl _ (ex_move (.tmp 10) rfl r10) hS uS
  ·intro f w1 hS hf aA hA
   have t11 := qG 11 5 hA sbTssg1 zsz (hf 5 (by decide))
   have r2 := qO 2 hA z2
   exact fV rfl ((wanted_of rfl 11 rfl t11).trans rfl) _ (fldT1 52 (Or.inr rfl) (.tmp 2) rfl g1 r2) hS uS
  ·intro f w1 hS hf aA hA
   have t11 := qG 11 5 hA sbTssg1 zsz (hf 5 (by decide))
   have r12 := qA 12 6 hA sbTssg1 zsz (hf 6 (by decide))
   exact fV rfl ((wanted_of rfl 11 rfl t11).trans rfl) _ (ex_load1 50 (.tmp 12) rfl ⟨g1, 1, none⟩ r12 (fun _ => by kernel_rfl) ((HX1.out.keepB hS).cellv rfl)) hS uS
  ·intro f w1 hS hf aA hA
   have t11 := qG 11 5 hA sbTssg1 zsz (hf 5 (by decide))
   have r13 := qA 13 7 hA sbTssg1 zsz (hf 7 (by decide))
   obtain ⟨q9, c9, hv9, _⟩ := (HA.out.keep (HB.out.trans (hS.mono HB.out.size)))
   exact fV rfl ((wanted_of rfl 11 rfl t11).trans rfl) _ (ex_len 50 87 (.tmp 13) rfl (by kernel_rfl) q9 (A).length c9 (r13.trans hv9)) hS uS
  ·intro f w1 hS hf aA hA
   have t11 := qG 11 5 hA sbTssg1 zsz (hf 5 (by decide))
   have r3 := qO 3 hA z3
   exact fV rfl ((wanted_of rfl 11 rfl t11).trans rfl) _ (fldT1 52 (Or.inr rfl) (.tmp 3) rfl g2 r3) hS uS
  ·intro f w1 hS hf aA hA
   have t11 := qG 11 5 hA sbTssg1 zsz (hf 5 (by decide))
   have r15 := qA 15 9 hA sbTssg1 zsz (hf 9 (by decide))
   exact fV rfl ((wanted_of rfl 11 rfl t11).trans rfl) _ (ex_load1 50 (.tmp 15) rfl ⟨g2, 1, none⟩ r15 (fun _ => by kernel_rfl) ((HX2.out.keepB hS).cellv rfl)) hS uS
  ·intro f w1 hS hf aA hA
   have t11 := qG 11 5 hA sbTssg1 zsz (hf 5 (by decide))
   have r16 := qA 16 10 hA sbTssg1 zsz (hf 10 (by decide))
   obtain ⟨q9, c9, hv9, _⟩ := (HV.out.keep (HB.out.trans (hS.mono HB.out.size)))
   exact fV rfl ((wanted_of rfl 11 rfl t11).trans rfl) _ (ex_len 50 87 (.tmp 16) rfl (by kernel_rfl) q9 (A).length c9 (r16.trans hv9)) hS uS
  ·intro f w1 hS hf aA hA
   have t11 := qG 11 5 hA sbTssg1 zsz (hf 5 (by decide))
   have r14 := qA 14 8 hA sbTssg1 zsz (hf 8 (by decide))
   have r17 := qA 17 11 hA sbTssg1 zsz (hf 11 (by decide))
   exact fV rfl ((wanted_of rfl 11 rfl t11).trans rfl) _ (Eq.trans (ex_int .neq _ _ (.tmp 14) (.tmp 17) rfl .i64 (((A).length : Int)) (((A).length : Int)) r14 r17 (.bool ((((A).length : Int)) != (((A).length : Int)))) (fun _ => rfl)) (by rw [(bne_self_eq_false (A.length : Int))])) hS uS
  ·intro f w1 hS hf aA hA
   have r11 := qA 11 5 hA sbTssg1 zsz (hf 5 (by decide))
   have r18 := qA 18 12 hA sbTssg1 zsz (hf 12 (by decide))
   exact fV rfl rfl (.bool false) (ex_pick (.tmp 11) _ (.tmp 18) rfl false r11 ((if_neg (by decide)).trans r18)) hS uS
 intro f u1 hS hf hap
 have h0 := eqL (hf 0 (by decide)) rfl
 have h1 := eqL (hf 1 (by decide)) rfl
 have h2 := eqL (hf 2 (by decide)) rfl
 have h3 := eqL (hf 3 (by decide)) rfl
 have h4 := eqL (hf 4 (by decide)) rfl
 have h5 := eqL (hf 5 (by decide)) rfl
 have h6 := eqL (hf 6 (by decide)) rfl
 have h7 : f 7 = u := hf 7 (by decide)
 have h8 := eqL (hf 8 (by decide)) rfl
 have h9 := eqL (hf 9 (by decide)) rfl
 have h10 := eqL (hf 10 (by decide)) rfl
 have h11 := eqL (hf 11 (by decide)) rfl
 have h12 := eqL (hf 12 (by decide)) rfl
 have h13 := eqL (hf 13 (by decide)) rfl
 clear hf hap
 clear zsz z2 z3
 subst ha0
 simp only [slotsTssg1, putAll, h0, h1, h2, h3, h4, h5, h6, h7, h8, h9, h10, h11, h12, h13, Act.put, List.setIfInBounds_toArray, List.set_cons_zero, List.set_cons_succ]
 clear h0 h1 h2 h3 h4 h5 h6 h7 h8 h9 h10 h11 h12 h13
 refine tl_nil ?_
 replace HX1 := Lib.hid (HX1.out.keepB hS)
 replace HX2 := Lib.hid (HX2.out.keepB hS)
 replace HB := Lib.hid (HB.out.trans (hS.mono HB.out.size))
 clear hS
 go_wp2_with fail
 go_loopw [5] (fun vi wr => ∃ i : Nat, i ≤ A.length ∧ vi = .int .i64 i ∧ Has wr g1 52 [.int .u64 (s : Int), u] ∧ Has wr g2 52 [.int .u64 (s : Int), v] ∧ Below w.heap.size w wr) (fun vi _ => A.length - (intOf vi).toNat)
 case atStart => exact ⟨0, by omega, rfl, HX1.out, HX2.out, HB.out⟩
 case round =>
  clear HX1 HX2 HB
  rename_i wr
  obtain ⟨i, hi, rfl, hx1, hx2, hB⟩ := hrel
  have HX1 := Lib.hid hx1
  have HX2 := Lib.hid hx2
  have HB := Lib.hid hB
  clear hx1 hx2 hB
  by_cases hlt : i < A.length
  ·have HLT : Hid (decide (((i : Int)) < (((A).length : Int))) = true) := Lib.hid (decide_eq_true (by omega))
   go_upto_region 4 with fail
   refine wp_act (fun a0 ha0 => ?_)
   have zsz : a0.tmps.size = 38 := by rw [ha0]; rfl
   have z5 : a0.eval (.tmp 5) = .int .i64 ((i : Int)) := by rw [ha0]; rfl
   have z2 : a0.eval (.tmp 2) = .pointer (some ⟨g1, 0, none⟩) := by rw [ha0]; rfl
   refine wrO [] slotsTssl4 waitTssl4 [Fct.val Flz 0 (.int .i64 ((i : Int))), Fct.val Flz 1 (.pointer (some ⟨g1, 1, none⟩)), Fct.val Flz 2 (u), Fct.val Flz 3 (.int .i64 (((A).length : Int))), Fct.val Flz 4 (.bool true)] (fun w' => Below wr.heap.size wr w') _ 5 0 chkTssl4 (by kernel_rfl) (by kernel_rfl) (by kernel_rfl) (by decide) (Below.refl _ _) ?_ ?_
   ·refine lt_s (lt_s (lt_s (lt_s (lt_s (lt_0) ?_) ?_) ?_) ?_) ?_
    ·intro f w1 hS hf aA hA
     have r5 := qO 5 hA z5
     exact fV rfl rfl _ (ex_move (.tmp 5) rfl r5) hS uS
    ·intro f w1 hS hf aA hA
     have r2 := qO 2 hA z2
     exact fV rfl rfl _ (fldT1 52 (Or.inr rfl) (.tmp 2) rfl g1 r2) hS uS
    ·intro f w1 hS hf aA hA
     have r21 := qA 21 1 hA sbTssl4 zsz (hf 1 (by decide))
     exact fV rfl rfl _ (ex_load1 50 (.tmp 21) rfl ⟨g1, 1, none⟩ r21 (fun _ => by kernel_rfl) ((HX1.out.keepB hS).cellv rfl)) hS uS
    ·intro f w1 hS hf aA hA
     have r22 := qA 22 2 hA sbTssl4 zsz (hf 2 (by decide))
     obtain ⟨q9, c9, hv9, _⟩ := (HA.out.keep (HB.out.trans (hS.mono HB.out.size)))
     exact fV rfl rfl _ (ex_len 50 87 (.tmp 22) rfl (by kernel_rfl) q9 (A).length c9 (r22.trans hv9)) hS uS
    ·intro f w1 hS hf aA hA
     have r20 := qA 20 0 hA sbTssl4 zsz (hf 0 (by decide))
     have r23 := qA 23 3 hA sbTssl4 zsz (hf 3 (by decide))
     exact fV rfl rfl _ (Eq.trans (ex_int .lss _ _ (.tmp 20) (.tmp 23) rfl .i64 ((i : Int)) (((A).length : Int)) r20 r23 (.bool (decide (((i : Int)) < (((A).length : Int))))) (fun _ => rfl)) (by rw [HLT.out])) hS uS
   intro f u4 hS hf hap
   have h0 := eqL (hf 0 (by decide)) rfl
   have h1 := eqL (hf 1 (by decide)) rfl
   have h2 : f 2 = u := hf 2 (by decide)
   have h3 := eqL (hf 3 (by decide)) rfl
   have h4 := eqL (hf 4 (by decide)) rfl
   clear hf hap
   clear zsz z5 z2
   subst ha0
   simp only [slotsTssl4, putAll, h0, h1, h2, h3, h4, Act.put, List.setIfInBounds_toArray, List.set_cons_zero, List.set_cons_succ]
   clear h0 h1 h2 h3 h4
   refine tl_nil ?_
   replace HX1 := Lib.hid (HX1.out.keepB hS)
   replace HX2 := Lib.hid (HX2.out.keepB hS)
   replace HB := Lib.hid (HB.out.trans (hS.mono HB.out.size))
   clear hS
   go_upto_region 6 with fail
   have HST : Hid (Below u4.heap.size u4 u4.drew) := Lib.hid (Below.refl _ _).drew
   replace HX1 := Lib.hid (HX1.out.keepB HST.out)
   replace HX2 := Lib.hid (HX2.out.keepB HST.out)
   replace HB := Lib.hid (HB.out.trans (HST.out.mono HB.out.size))
   clear HST
   obtain ⟨a, cp2, hv, _, hc⟩ := (HA.out.keep HB.out).el hlt
   have HAV := Lib.hid hv
   have HAC := Lib.hid hc
   clear hv hc
   obtain ⟨d, cp3, hv, _, hc⟩ := (HV.out.keep HB.out).el hlt
   have HVV := Lib.hid hv
   have HVC := Lib.hid hc
   clear hv hc
   refine wp_act (fun a0 ha0 => ?_)
   have zsz : a0.tmps.size = 38 := by rw [ha0]; rfl
   have z2 : a0.eval (.tmp 2) = .pointer (some ⟨g1, 0, none⟩) := by rw [ha0]; rfl
   have z5 : a0.eval (.tmp 5) = .int .i64 ((i : Int)) := by rw [ha0]; rfl
   have z3 : a0.eval (.tmp 3) = .pointer (some ⟨g2, 0, none⟩) := by rw [ha0]; rfl
   refine wrD [] slotsTss6 waitTss6 [Fct.val Flz 0 (.pointer (some ⟨g1, 1, none⟩)), Fct.val Flz 1 (u), Fct.val Flz 2 (.int .i64 ((i : Int))), Fct.val Flz 3 (.pointer (some (a.add (i * 65)))), Fct.val Flz 4 (aggC ((A[i]))), Fct.val Flz 5 (.pointer (some ⟨g2, 1, none⟩)), Fct.val Flz 6 (v), Fct.val Flz 7 (.int .i64 ((i : Int))), Fct.val Flz 8 (.pointer (some (d.add (i * 65)))), Fct.val Flz 9 (aggC ((A[i]))), Fct.val Flz 10 (.bool false)] (fun w' => Below u4.drew.heap.size u4.drew w') _ 11 0 chkTss6 (by kernel_rfl) (by kernel_rfl) (by kernel_rfl) (by kernel_rfl) (by decide) (Below.refl _ _) ?_ ?_
   ·refine lt_s (lt_s (lt_s (lt_s (lt_s (lt_s (lt_s (lt_s (lt_s (lt_s (lt_s (lt_0) ?_) ?_) ?_) ?_) ?_) ?_) ?_) ?_) ?_) ?_) ?_
    ·intro f w1 hS hf aA hA
     have r2 := qO 2 hA z2
     exact fV rfl rfl _ (fldT1 52 (Or.inr rfl) (.tmp 2) rfl g1 r2) hS uS
    ·intro f w1 hS hf aA hA
     have r27 := qA 27 0 hA sbTss6 zsz (hf 0 (by decide))
     exact fV rfl rfl _ (ex_load1 50 (.tmp 27) rfl ⟨g1, 1, none⟩ r27 (fun _ => by kernel_rfl) ((HX1.out.keepB hS).cellv rfl)) hS uS
    ·intro f w1 hS hf aA hA
     have r5 := qO 5 hA z5
     exact fV rfl rfl _ (ex_move (.tmp 5) rfl r5) hS uS
    ·intro f w1 hS hf aA hA
     have r28 := qA 28 1 hA sbTss6 zsz (hf 1 (by decide))
     have r29 := qA 29 2 hA sbTss6 zsz (hf 2 (by decide))
     exact fV rfl rfl _ (ex_indexS 50 87 (.tmp 28) (.tmp 29) rfl a A.length cp2 i 65 (by kernel_rfl) (fun _ => by kernel_rfl) (Eq.trans r28 HAV.out) r29 hlt) hS uS
    ·intro f w1 hS hf aA hA
     have r30 := qA 30 3 hA sbTss6 zsz (hf 3 (by decide))
     exact fV rfl rfl _ (ex_loadR 87 (.tmp 30) rfl (a.add (i * 65)) r30 (fun _ => by kernel_rfl) (encC ((A[i]))) (by rw [encC_len]; kernel_rfl) (HAC.out w1 hS.block)) hS uS
    ·intro f w1 hS hf aA hA
     have r3 := qO 3 hA z3
     exact fV rfl rfl _ (fldT1 52 (Or.inr rfl) (.tmp 3) rfl g2 r3) hS uS
    ·intro f w1 hS hf aA hA
     have r32 := qA 32 5 hA sbTss6 zsz (hf 5 (by decide))
     exact fV rfl rfl _ (ex_load1 50 (.tmp 32) rfl ⟨g2, 1, none⟩ r32 (fun _ => by kernel_rfl) ((HX2.out.keepB hS).cellv rfl)) hS uS
    ·intro f w1 hS hf aA hA
     have r5 := qO 5 hA z5
     exact fV rfl rfl _ (ex_move (.tmp 5) rfl r5) hS uS
    ·intro f w1 hS hf aA hA
     have r33 := qA 33 6 hA sbTss6 zsz (hf 6 (by decide))
     have r34 := qA 34 7 hA sbTss6 zsz (hf 7 (by decide))
     exact fV rfl rfl _ (ex_indexS 50 87 (.tmp 33) (.tmp 34) rfl d A.length cp3 i 65 (by kernel_rfl) (fun _ => by kernel_rfl) (Eq.trans r33 HVV.out) r34 hlt) hS uS
    ·intro f w1 hS hf aA hA
     have r35 := qA 35 8 hA sbTss6 zsz (hf 8 (by decide))
     exact fV rfl rfl _ (ex_loadR 87 (.tmp 35) rfl (d.add (i * 65)) r35 (fun _ => by kernel_rfl) (encC ((A[i]))) (by rw [encC_len]; kernel_rfl) (HVC.out w1 hS.block)) hS uS
    ·intro f w1 hS hf aA hA
     have r31 := qA 31 4 hA sbTss6 zsz (hf 4 (by decide))
     have r36 := qA 36 9 hA sbTss6 zsz (hf 9 (by decide))
     exact fV rfl rfl _ (Eq.trans (neqR (.tmp 31) (.tmp 36) _ rfl ((A[i])) ((A[i])) r31 r36) (by rw [(show (!decide (A[i] = A[i])) = false by simp)])) hS uS
   intro f u6 hS hf hap
   have h0 := eqL (hf 0 (by decide)) rfl
   have h1 : f 1 = u := hf 1 (by decide)
   have h2 := eqL (hf 2 (by decide)) rfl
   have h3 := eqL (hf 3 (by decide)) rfl
   have h4 := eqL (hf 4 (by decide)) rfl
   have h5 := eqL (hf 5 (by decide)) rfl
   have h6 : f 6 = v := hf 6 (by decide)
   have h7 := eqL (hf 7 (by decide)) rfl
   have h8 := eqL (hf 8 (by decide)) rfl
   have h9 := eqL (hf 9 (by decide)) rfl
   have h10 := eqL (hf 10 (by decide)) rfl
   clear hf hap
   clear zsz z2 z5 z3
   subst ha0
   simp only [slotsTss6, putAll, h0, h1, h2, h3, h4, h5, h6, h7, h8, h9, h10, Act.put, List.setIfInBounds_toArray, List.set_cons_zero, List.set_cons_succ]
   clear h0 h1 h2 h3 h4 h5 h6 h7 h8 h9 h10
   refine tl_nilN ?_
   replace HX1 := Lib.hid (HX1.out.keepB hS)
   replace HX2 := Lib.hid (HX2.out.keepB hS)
   replace HB := Lib.hid (HB.out.trans (hS.mono HB.out.size))
   clear hS
   go_wp2_with fail
   go_roundw
   case rel => exact ⟨i + 1, by omega, by go_num, HX1.out, HX2.out, HB.out⟩
   case measure => simp [intOf]; omega
  ·have hiA : i = A.length := by omega
   have HLT : Hid (decide (((i : Int)) < (((A).length : Int))) = false) := Lib.hid (decide_eq_false (by omega))
   clear hiA
   go_upto_region 4 with fail
   refine wp_act (fun a0 ha0 => ?_)
   have zsz : a0.tmps.size = 38 := by rw [ha0]; rfl
   have z5 : a0.eval (.tmp 5) = .int .i64 ((i : Int)) := by rw [ha0]; rfl
   have z2 : a0.eval (.tmp 2) = .pointer (some ⟨g1, 0, none⟩) := by rw [ha0]; rfl
   refine wrO [] slotsTssl4 waitTssl4 [Fct.val Flz 0 (.int .i64 ((i : Int))), Fct.val Flz 1 (.pointer (some ⟨g1, 1, none⟩)), Fct.val Flz 2 (u), Fct.val Flz 3 (.int .i64 (((A).length : Int))), Fct.val Flz 4 (.bool false)] (fun w' => Below wr.heap.size wr w') _ 5 0 chkTssl4 (by kernel_rfl) (by kernel_rfl) (by kernel_rfl) (by decide) (Below.refl _ _) ?_ ?_
   ·refine lt_s (lt_s (lt_s (lt_s (lt_s (lt_0) ?_) ?_) ?_) ?_) ?_
    ·intro f w1 hS hf aA hA
     have r5 := qO 5 hA z5
     exact fV rfl rfl _ (ex_move (.tmp 5) rfl r5) hS uS
    ·intro f w1 hS hf aA hA
     have r2 := qO 2 hA z2
     exact fV rfl rfl _ (fldT1 52 (Or.inr rfl) (.tmp 2) rfl g1 r2) hS uS
    ·intro f w1 hS hf aA hA
     have r21 := qA 21 1 hA sbTssl4 zsz (hf 1 (by decide))
     exact fV rfl rfl _ (ex_load1 50 (.tmp 21) rfl ⟨g1, 1, none⟩ r21 (fun _ => by kernel_rfl) ((HX1.out.keepB hS).cellv rfl)) hS uS
    ·intro f w1 hS hf aA hA
     have r22 := qA 22 2 hA sbTssl4 zsz (hf 2 (by decide))
     obtain ⟨q9, c9, hv9, _⟩ := (HA.out.keep (HB.out.trans (hS.mono HB.out.size)))
     exact fV rfl rfl _ (ex_len 50 87 (.tmp 22) rfl (by kernel_rfl) q9 (A).length c9 (r22.trans hv9)) hS uS
    ·intro f w1 hS hf aA hA
     have r20 := qA 20 0 hA sbTssl4 zsz (hf 0 (by decide))
     have r23 := qA 23 3 hA sbTssl4 zsz (hf 3 (by decide))
     exact fV rfl rfl _ (Eq.trans (ex_int .lss _ _ (.tmp 20) (.tmp 23) rfl .i64 ((i : Int)) (((A).length : Int)) r20 r23 (.bool (decide (((i : Int)) < (((A).length : Int))))) (fun _ => rfl)) (by rw [HLT.out])) hS uS
   intro f u4 hS hf hap
   have h0 := eqL (hf 0 (by decide)) rfl
   have h1 := eqL (hf 1 (by decide)) rfl
   have h2 : f 2 = u := hf 2 (by decide)
   have h3 := eqL (hf 3 (by decide)) rfl
   have h4 := eqL (hf 4 (by decide)) rfl
   clear hf hap
   clear zsz z5 z2
   subst ha0
   simp only [slotsTssl4, putAll, h0, h1, h2, h3, h4, Act.put, List.setIfInBounds_toArray, List.set_cons_zero, List.set_cons_succ]
   clear h0 h1 h2 h3 h4
   refine tl_nil ?_
   replace HX1 := Lib.hid (HX1.out.keepB hS)
   replace HX2 := Lib.hid (HX2.out.keepB hS)
   replace HB := Lib.hid (HB.out.trans (hS.mono HB.out.size))
   clear hS
   go_wp2_with fail
   go_ret
   exact ⟨⟨_, rfl, rfl⟩, HB.out⟩
theorem sameT_any (s : Nat) (u : Value) (A : List Ce) (v : Value) (w : World) (hM : A.length ≤ 1000000) (hA : Cs w u A) (hV : Cs w v A) : Calls Tryd.prog 17 #[.agg #[.int .u64 (s : Int), u], .agg #[.int .u64 (s : Int), v]] w fun e w' => (∃ v, e = .returned v ∧ v = .bool true) ∧ Below w.heap.size w w' := sameT_b s u A v w w (Below.refl _ _) hM hA hV
end Go.Proofs.YtnkcehmgagpadaaDoor
/- Contracts: the document's own Minus; the law's own cellOf, tableOf. Condition: at most 10^5 cells each. -/
namespace Go.Proofs.YtnkcehmgagpadaaDoor
open Go.RowKit
def waitTce1 (i : Nat) : List Nat := ([[], [0], [], [2], [], [4], [1, 3, 5], [0, 1, 2, 3, 4, 5, 6]] : List (List Nat)).getD i []
def slotsTce1 : List (Nat × Nat) := [(3, 0), (4, 1), (5, 2), (6, 3), (7, 4), (8, 5), (9, 6)]
theorem sbTce1 : slotsB slotsTce1 = true := by kernel_rfl
theorem chkTce1 : flwO slotsTce1 waitTce1 7 (regOf Tryd.f43.body 1) = true := by kernel_rfl
set_option maxHeartbeats 8000000 in
set_option maxRecDepth 100000 in
theorem cellOf16_b (c : Ce) (w w0 : World) (hB : Below w.heap.size w w0) : Calls Tryd.prog 43 #[aggC c] w0 fun e w' => (∃ v, e = .returned v ∧ v = aggC c) ∧ Below w.heap.size w w' := by
 go_enter Tryd.func43, Tryd.ntmps43
 have HB := Lib.hid hB
 clear hB
 go_upto_region 0 with fail
 refine wp_region_lit ?_
 try simp only [Act.put, List.setIfInBounds_toArray, List.set_cons_zero, List.set_cons_succ]
 refine lp_step rfl (fun K hK => wp_box_row 47 (.tmp 0) rfl (aggC c) rfl (hK _ _ ?_))
 try simp only [Act.put, List.setIfInBounds_toArray, List.set_cons_zero, List.set_cons_succ]
 show wpList _ _ _ _ _ (w0.alloc (.cells (encC c).toArray 47))
 have HST : Hid (Below w0.heap.size w0 (w0.alloc (.cells (encC c).toArray 47))) := Lib.hid ((Below.refl _ _).alloc (Nat.le_refl _) _)
 have HX1 : Hid (Has (w0.alloc (.cells (encC c).toArray 47)) w0.heap.size 47 (encC c)) := Lib.hid (Has.made' _ _ _ _ rfl)
 have HGg1 : Hid (w.heap.size ≤ w0.heap.size) := Lib.hid HB.out.size
 replace HB := Lib.hid (HB.out.trans (HST.out.mono HB.out.size))
 clear HST
 generalize w0.alloc (.cells (encC c).toArray 47) = w1 at *
 generalize w0.heap.size = g1 at *
 refine lp_step rfl (fun K hK => wp_alloc_row 87 rfl (aggC zC) (fun w => by kernel_rfl) (hK _ _ ?_))
 try simp only [Act.put, List.setIfInBounds_toArray, List.set_cons_zero, List.set_cons_succ]
 show wpList _ _ _ _ _ (w1.alloc (.cells (encC zC).toArray 87))
 have HST : Hid (Below w1.heap.size w1 (w1.alloc (.cells (encC zC).toArray 87))) := Lib.hid ((Below.refl _ _).alloc (Nat.le_refl _) _)
 have HLT_g1_g2 : Hid (g1 < w1.heap.size) := Lib.hid HX1.out.lt
 have HNE_g1_g2 : Hid (g1 ≠ w1.heap.size) := Lib.hid (Nat.ne_of_lt HX1.out.lt)
 have HX2 : Hid (Has (w1.alloc (.cells (encC zC).toArray 87)) w1.heap.size 87 (encC zC)) := Lib.hid (Has.made' _ _ _ _ rfl)
 replace HX1 := Lib.hid (HX1.out.keepB HST.out)
 have HGg2 : Hid (w.heap.size ≤ w1.heap.size) := Lib.hid HB.out.size
 replace HB := Lib.hid (HB.out.trans (HST.out.mono HB.out.size))
 clear HST
 generalize w1.alloc (.cells (encC zC).toArray 87) = w2 at *
 generalize w1.heap.size = g2 at *
 refine wpList_nil ?_
 go_upto_region 1 with fail
 refine wp_act (fun a0 ha0 => ?_)
 have zsz : a0.tmps.size = 10 := by rw [ha0]; rfl
 have z1 : a0.eval (.tmp 1) = .pointer (some ⟨g1, 0, none⟩) := by rw [ha0]; rfl
 refine wrO [] slotsTce1 waitTce1 [Fct.val Flz 0 (.pointer (some ⟨g1, 0, none⟩)), Fct.val Flz 1 (.int .i64 (c.1)), Fct.val Flz 2 (.pointer (some ⟨g1, 1, none⟩)), Fct.val Flz 3 (.agg (encU c.2.1).toArray), Fct.val Flz 4 (.pointer (some ⟨g1, 33, none⟩)), Fct.val Flz 5 (.agg (encU c.2.2).toArray), Fct.val Flz 6 (aggC ((c.1, c.2.1, c.2.2)))] (fun w' => Below w2.heap.size w2 w') _ 7 1 chkTce1 (by kernel_rfl) (by kernel_rfl) (by kernel_rfl) (by decide) (Below.refl _ _) ?_ ?_
 ·refine lt_s (lt_s (lt_s (lt_s (lt_s (lt_s (lt_s (lt_0) ?_) ?_) ?_) ?_) ?_) ?_) ?_
  ·intro f w1 hS hf aA hA
   have r1 := qO 1 hA z1
   exact fV rfl rfl _ (fld0C (.tmp 1) rfl g1 r1) hS uS
  ·intro f w1 hS hf aA hA
   have r3 := qA 3 0 hA sbTce1 zsz (hf 0 (by decide))
   exact fV rfl rfl _ (ex_load1 2 (.tmp 3) rfl ⟨g1, 0, none⟩ r3 (fun _ => by kernel_rfl) ((HX1.out.keepB hS).cellv (encC_0 c))) hS uS
  ·intro f w1 hS hf aA hA
   have r1 := qO 1 hA z1
   exact fV rfl rfl _ (fld1C (.tmp 1) rfl g1 r1) hS uS
  ·intro f w1 hS hf aA hA
   have r5 := qA 5 2 hA sbTce1 zsz (hf 2 (by decide))
   exact fV rfl rfl _ (ex_loadR 42 (.tmp 5) rfl ⟨g1, 1, none⟩ r5 (fun _ => by kernel_rfl) (encU c.2.1) (by rw [encU_len]; kernel_rfl) ((HX1.out.keepB hS).part (encU c.2.1) 1 (encC_key c))) hS uS
  ·intro f w1 hS hf aA hA
   have r1 := qO 1 hA z1
   exact fV rfl rfl _ (fld2C (.tmp 1) rfl g1 r1) hS uS
  ·intro f w1 hS hf aA hA
   have r7 := qA 7 4 hA sbTce1 zsz (hf 4 (by decide))
   exact fV rfl rfl _ (ex_loadR 42 (.tmp 7) rfl ⟨g1, 33, none⟩ r7 (fun _ => by kernel_rfl) (encU c.2.2) (by rw [encU_len]; kernel_rfl) ((HX1.out.keepB hS).part (encU c.2.2) 33 (encC_chk c))) hS uS
  ·intro f w1 hS hf aA hA
   have r4 := qA 4 1 hA sbTce1 zsz (hf 1 (by decide))
   have r6 := qA 6 3 hA sbTce1 zsz (hf 3 (by decide))
   have r8 := qA 8 5 hA sbTce1 zsz (hf 5 (by decide))
   exact fV rfl rfl _ (ex_build 87 _ rfl (encC ((c.1, c.2.1, c.2.2))).toArray [(0, .int .i64 (c.1)), (1, .agg (encU c.2.1).toArray), (2, .agg (encU c.2.2).toArray)] (by simp only [List.map_toArray, List.map_cons, List.map_nil, r4, r6, r8]) (builtR3 c.1 c.2.1 c.2.2)) hS uS
 intro f u1 hS hf hap
 have h0 := eqL (hf 0 (by decide)) rfl
 have h1 := eqL (hf 1 (by decide)) rfl
 have h2 := eqL (hf 2 (by decide)) rfl
 have h3 := eqL (hf 3 (by decide)) rfl
 have h4 := eqL (hf 4 (by decide)) rfl
 have h5 := eqL (hf 5 (by decide)) rfl
 have h6 := eqL (hf 6 (by decide)) rfl
 clear hf hap
 clear zsz z1
 subst ha0
 simp only [slotsTce1, putAll, h0, h1, h2, h3, h4, h5, h6, Act.put, List.setIfInBounds_toArray, List.set_cons_zero, List.set_cons_succ]
 clear h0 h1 h2 h3 h4 h5 h6
 have hBS := HB.out.trans (hS.mono HB.out.size)
 replace HX1 := Lib.hid (HX1.out.keepB hS)
 replace HX2 := Lib.hid (HX2.out.keepB hS)
 clear hS
 refine tl_store rfl (by kernel_rfl) 87 (.tmp 2) (.tmp 9) rfl g2 (encC ((c.1, c.2.1, c.2.2))) _ rfl rfl _ HX2.out (by rw [encC_len]; kernel_rfl) (by simp only [encC_len]) (encC_ones _) ?_
 intro u2 hp hbl hot
 replace HX1 : Hid (Has u2 g1 47 (encC c)) := Lib.hid ((hot _ (Has.apartT HX1.out HX2.out (by decide))).trans HX1.out)
 replace HX2 : Hid (Has u2 g2 87 (encC ((c.1, c.2.1, c.2.2)))) := Lib.hid hp
 replace hBS := hBS.trans (hbl _ HGg2.out)
 clear hp hbl hot
 try simp only [Act.put]
 refine tl_nil ?_
 replace HB := Lib.hid hBS
 clear hBS
 go_wp2_with fail
 (try simp only [Exit.inBlock, Exit.then])
 refine bodyPost_ret (v := .agg (encC c).toArray) ?_ rfl ⟨⟨_, rfl, rfl⟩, HB.out⟩
 exact results_cell_row rfl _ _ g2 87 _ (0, 0) _ rfl HX2.out Tryd.underlying87 rfl (by rw [List.size_toArray, encC_len]; kernel_rfl)
theorem cellOf16_any (c : Ce) (w : World) : Calls Tryd.prog 43 #[aggC c] w fun e w' => (∃ v, e = .returned v ∧ v = aggC c) ∧ Below w.heap.size w w' := cellOf16_b c w w (Below.refl _ _)
def waitTto1 (i : Nat) : List Nat := ([[], [0], [1], [], [0, 1, 2, 3]] : List (List Nat)).getD i []
def slotsTto1 : List (Nat × Nat) := [(5, 0), (6, 1), (7, 2), (3, 3)]
theorem sbTto1 : slotsB slotsTto1 = true := by kernel_rfl
theorem chkTto1 : flwO slotsTto1 waitTto1 4 (regOf Tryd.f18.body 1) = true := by kernel_rfl
def waitTtol3 (i : Nat) : List Nat := ([[], [], [1], [2], [0, 3]] : List (List Nat)).getD i []
def slotsTtol3 : List (Nat × Nat) := [(8, 0), (9, 1), (10, 2), (11, 3), (12, 4)]
theorem sbTtol3 : slotsB slotsTtol3 = true := by kernel_rfl
theorem chkTtol3 : flwO slotsTtol3 waitTtol3 5 (regOf Tryd.f18.body 3) = true := by kernel_rfl
def waitTto5 (i : Nat) : List Nat := ([[], [0], [], [2], [], [2, 3, 4], [2, 3, 4, 5], [2, 3, 4, 5, 6], [2, 3, 4, 5, 6, 7], [0, 1, 2, 3, 4, 5, 6, 7, 8], [0, 1, 2, 3, 4, 5, 6, 7, 8, 9], [0, 1, 2, 3, 4, 5, 6, 7, 8, 9, 10]] : List (List Nat)).getD i []
def slotsTto5 : List (Nat × Nat) := [(15, 0), (16, 1), (17, 2), (18, 3), (19, 4), (20, 5), (21, 6), (22, 7), (23, 8), (24, 9), (25, 10)]
theorem sbTto5 : slotsB slotsTto5 = true := by kernel_rfl
theorem chkTto5 : flwB slotsTto5 waitTto5 9 (regOf Tryd.f18.body 5) = true := by kernel_rfl
def waitTtoe6 (i : Nat) : List Nat := ([[], [0]] : List (List Nat)).getD i []
def slotsTtoe6 : List (Nat × Nat) := [(26, 0)]
theorem chkTtoe6 : flwO slotsTtoe6 waitTtoe6 1 (regOf Tryd.f18.body 6) = true := by kernel_rfl
set_option maxHeartbeats 16000000 in
set_option maxRecDepth 100000 in
theorem tableOf_b (s : Nat) (v : Value) (L : List Ce) (w w0 : World) (hB : Below w.heap.size w w0) (hM : L.length ≤ 100000) (hC : Cs w v L) : Calls Tryd.prog 18 #[.agg #[.int .u64 (s : Int), v]] w0 fun e w' => (∃ v, e = .returned v ∧ ∃ x, v = .agg #[.int .u64 (s : Int), x] ∧ Cs w' x L) ∧ Below w.heap.size w w' := by
 go_enter Tryd.func18, Tryd.ntmps18
 have HB := Lib.hid hB
 clear hB
 have HC := Lib.hid hC
 clear hC
 go_upto_region 0 with fail
 refine wp_region_lit ?_
 try simp only [Act.put, List.setIfInBounds_toArray, List.set_cons_zero, List.set_cons_succ]
 refine lp_step rfl (fun K hK => wp_box_row 28 (.tmp 0) rfl (.agg #[.int .u64 (s : Int), v]) rfl (hK _ _ ?_))
 try simp only [Act.put, List.setIfInBounds_toArray, List.set_cons_zero, List.set_cons_succ]
 show wpList _ _ _ _ _ (w0.alloc (.cells (([.int .u64 (s : Int), v] : List Value)).toArray 28))
 have HST : Hid (Below w0.heap.size w0 (w0.alloc (.cells (([.int .u64 (s : Int), v] : List Value)).toArray 28))) := Lib.hid ((Below.refl _ _).alloc (Nat.le_refl _) _)
 have HX1 : Hid (Has (w0.alloc (.cells (([.int .u64 (s : Int), v] : List Value)).toArray 28)) w0.heap.size 28 ([.int .u64 (s : Int), v])) := Lib.hid (Has.made' _ _ _ _ rfl)
 have HGg1 : Hid (w.heap.size ≤ w0.heap.size) := Lib.hid HB.out.size
 replace HB := Lib.hid (HB.out.trans (HST.out.mono HB.out.size))
 clear HST
 generalize w0.alloc (.cells (([.int .u64 (s : Int), v] : List Value)).toArray 28) = w1 at *
 generalize w0.heap.size = g1 at *
 refine lp_step rfl (fun K hK => wp_alloc_row 52 rfl (.agg #[.int .u64 0, .slice none 0 0]) (fun w => by kernel_rfl) (hK _ _ ?_))
 try simp only [Act.put, List.setIfInBounds_toArray, List.set_cons_zero, List.set_cons_succ]
 show wpList _ _ _ _ _ (w1.alloc (.cells (([.int .u64 0, .slice none 0 0] : List Value)).toArray 52))
 have HST : Hid (Below w1.heap.size w1 (w1.alloc (.cells (([.int .u64 0, .slice none 0 0] : List Value)).toArray 52))) := Lib.hid ((Below.refl _ _).alloc (Nat.le_refl _) _)
 have HLT_g1_g2 : Hid (g1 < w1.heap.size) := Lib.hid HX1.out.lt
 have HNE_g1_g2 : Hid (g1 ≠ w1.heap.size) := Lib.hid (Nat.ne_of_lt HX1.out.lt)
 have HX2 : Hid (Has (w1.alloc (.cells (([.int .u64 0, .slice none 0 0] : List Value)).toArray 52)) w1.heap.size 52 ([.int .u64 0, .slice none 0 0])) := Lib.hid (Has.made' _ _ _ _ rfl)
 replace HX1 := Lib.hid (HX1.out.keepB HST.out)
 have HGg2 : Hid (w.heap.size ≤ w1.heap.size) := Lib.hid HB.out.size
 replace HB := Lib.hid (HB.out.trans (HST.out.mono HB.out.size))
 clear HST
 generalize w1.alloc (.cells (([.int .u64 0, .slice none 0 0] : List Value)).toArray 52) = w2 at *
 generalize w1.heap.size = g2 at *
 refine wpList_nil ?_
 have HG2L : Hid (g2 < w2.heap.size) := Lib.hid HX2.out.lt
 have HG1L : Hid (g1 < w2.heap.size) := Lib.hid HX1.out.lt
 go_upto_region 1 with fail
 refine wp_act (fun a0 ha0 => ?_)
 have zsz : a0.tmps.size = 27 := by rw [ha0]; rfl
 have z1 : a0.eval (.tmp 1) = .pointer (some ⟨g1, 0, none⟩) := by rw [ha0]; rfl
 refine wrO [] slotsTto1 waitTto1 [Fct.val Flz 0 (.pointer (some ⟨g1, 0, none⟩)), Fct.val Flz 1 (.int .u64 (s : Int)), Fct.val Flz 2 (.agg #[.int .u64 (s : Int), .slice none 0 0]), Fct.obj 3 (fun v w => ∃ g, v = .pointer (some ⟨g, 0, none⟩) ∧ w2.heap.size ≤ g ∧ Has w g 52 ([.int .u64 0, .slice none 0 0])) (fun _ _ _ ⟨g, a, b, c⟩ he => ⟨g, a, b, c.flz he (by decide)⟩)] (fun w' => Below w2.heap.size w2 w') _ 4 1 chkTto1 (by kernel_rfl) (by kernel_rfl) (by kernel_rfl) (by decide) (Below.refl _ _) ?_ ?_
 ·refine lt_s (lt_s (lt_s (lt_s (lt_0) ?_) ?_) ?_) ?_
  ·intro f w1 hS hf aA hA
   have r1 := qO 1 hA z1
   exact fV rfl rfl _ (fldT0 28 (Or.inl rfl) (.tmp 1) rfl g1 r1) hS uS
  ·intro f w1 hS hf aA hA
   have r5 := qA 5 0 hA sbTto1 zsz (hf 0 (by decide))
   exact fV rfl rfl _ (ex_load1 25 (.tmp 5) rfl ⟨g1, 0, none⟩ r5 (fun _ => by kernel_rfl) ((HX1.out.keepB hS).cellv rfl)) hS uS
  ·intro f w1 hS hf aA hA
   have r6 := qA 6 1 hA sbTto1 zsz (hf 1 (by decide))
   exact fV rfl rfl _ (ex_build 52 _ rfl #[.int .u64 (s : Int), .slice none 0 0] [(0, .int .u64 (s : Int))] (by simp only [List.map_toArray, List.map_cons, List.map_nil, r6]) (builtQ1 _)) hS uS
  ·intro f w1 hS hf aA hA
   exact flw_wp rfl rfl (fun K hK => wp_alloc_row 52 rfl (.agg #[.int .u64 0, .slice none 0 0]) (fun w => by kernel_rfl) (hK _ _ (hS.alloc hS.size _) (Flz.al _ _) ⟨_, uS, hS.size, Has.made' _ _ _ _ rfl⟩))
 intro f u1 hS hf hap
 have h0 := eqL (hf 0 (by decide)) rfl
 have h1 := eqL (hf 1 (by decide)) rfl
 have h2 := eqL (hf 2 (by decide)) rfl
 obtain ⟨b1_3, h3, hgb3, hhb3⟩ := hf 3 (by decide)
 clear hf hap
 clear zsz z1
 subst ha0
 simp only [slotsTto1, putAll, h0, h1, h2, h3, Act.put, List.setIfInBounds_toArray, List.set_cons_zero, List.set_cons_succ]
 clear h0 h1 h2 h3
 refine tl_store rfl (by kernel_rfl) 52 (.tmp 3) (.tmp 7) rfl b1_3 ([.int .u64 (s : Int), .slice none 0 0]) _ rfl rfl _ hhb3 (by kernel_rfl) rfl (tb_ones _ rfl) ?_
 intro u2 hp3 hbl hot
 replace hS := hS.trans (hbl _ hgb3)
 clear hbl hot hhb3
 try simp only [Act.put]
 refine tl_nil ?_
 replace HX1 := Lib.hid (HX1.out.keepB hS)
 replace HX2 := Lib.hid (HX2.out.keepB hS)
 have HBW := Lib.hid HB.out.size
 replace HB := Lib.hid (HB.out.trans (hS.mono HB.out.size))
 clear hS
 have HNEb2 : Hid (g2 ≠ b1_3) := Lib.hid (by have := HG2L.out; have := hgb3; omega)
 have HNEb1 : Hid (g1 ≠ b1_3) := Lib.hid (by have := HG1L.out; have := hgb3; omega)
 have HGb1_3 : Hid (w.heap.size ≤ b1_3) := Lib.hid (Nat.le_trans HBW.out hgb3)
 have HX_b1_3 : Hid (Has u2 b1_3 52 ([.int .u64 (s : Int), .slice none 0 0])) := Lib.hid hp3
 clear hp3 hgb3
 clear HBW
 obtain ⟨b0, hb0⟩ : ∃ b, b = u2.heap.size := ⟨_, rfl⟩
 have HBB : Hid (w.heap.size ≤ b0) := Lib.hid (by rw [hb0]; exact HB.out.size)
 have HBS : Hid (Szl b0 u2) := Lib.hid (Nat.le_of_eq hb0)
 have HG7 := HGb1_3
 have HZ0 : Hid (RowO b0 87 u2 (.slice none 0 0) (L.take 0)) := Lib.hid (RowO.nil _ _ _ (by decide))
 clear hb0
 go_wp2_with fail
 go_loopw [4] (fun vi wr => ∃ i : Nat, i ≤ L.length ∧ vi = .int .i64 i ∧ (∃ z, Has wr b1_3 52 [.int .u64 (s : Int), z] ∧ RowO b0 87 wr z (L.take i)) ∧ (Has wr g1 28 [.int .u64 (s : Int), v] ∧ Has wr g2 52 [.int .u64 0, .slice none 0 0]) ∧ Szl b0 wr ∧ Below w.heap.size w wr) (fun vi _ => L.length - (intOf vi).toNat)
 case atStart => exact ⟨0, by omega, rfl, ⟨_, HX_b1_3.out, HZ0.out⟩, ⟨HX1.out, HX2.out⟩, HBS.out, HB.out⟩
 case round =>
  clear HX_b1_3 HX1 HX2 HB HBS HZ0
  rename_i wr
  obtain ⟨i, hi, rfl, ⟨vz, hx7, hz⟩, ⟨hx1, hx2⟩, hbs, hB⟩ := hrel
  have HX7 := Lib.hid hx7
  have HZ := Lib.hid hz
  have HX1 := Lib.hid hx1
  have HX2 := Lib.hid hx2
  have HBS := Lib.hid hbs
  have HB := Lib.hid hB
  clear hx7 hz hx1 hx2 hbs hB
  by_cases hlt : i < L.length
  ·have HLT : Hid (decide (((i : Int)) < (((L).length : Int))) = true) := Lib.hid (decide_eq_true (by omega))
   have HTK : Hid (L.take (i + 1) = L.take i ++ [L[i]]) := Lib.hid (List.take_succ_eq_append_getElem hlt)
   have HSM : Hid ((L.take i).length + [L[i]].length ≤ 1000000) := Lib.hid (by simp; omega)
   go_upto_region 3 with fail
   refine wp_act (fun a0 ha0 => ?_)
   have zsz : a0.tmps.size = 27 := by rw [ha0]; rfl
   have z4 : a0.eval (.tmp 4) = .int .i64 ((i : Int)) := by rw [ha0]; rfl
   have z1 : a0.eval (.tmp 1) = .pointer (some ⟨g1, 0, none⟩) := by rw [ha0]; rfl
   refine wrO [] slotsTtol3 waitTtol3 [Fct.val Flz 0 (.int .i64 ((i : Int))), Fct.val Flz 1 (.pointer (some ⟨g1, 1, none⟩)), Fct.val Flz 2 (v), Fct.val Flz 3 (.int .i64 (((L).length : Int))), Fct.val Flz 4 (.bool true)] (fun w' => Below wr.heap.size wr w') _ 5 0 chkTtol3 (by kernel_rfl) (by kernel_rfl) (by kernel_rfl) (by decide) (Below.refl _ _) ?_ ?_
   ·refine lt_s (lt_s (lt_s (lt_s (lt_s (lt_0) ?_) ?_) ?_) ?_) ?_
    ·intro f w1 hS hf aA hA
     have r4 := qO 4 hA z4
     exact fV rfl rfl _ (ex_move (.tmp 4) rfl r4) hS uS
    ·intro f w1 hS hf aA hA
     have r1 := qO 1 hA z1
     exact fV rfl rfl _ (fldT1 28 (Or.inl rfl) (.tmp 1) rfl g1 r1) hS uS
    ·intro f w1 hS hf aA hA
     have r9 := qA 9 1 hA sbTtol3 zsz (hf 1 (by decide))
     exact fV rfl rfl _ (ex_load1 26 (.tmp 9) rfl ⟨g1, 1, none⟩ r9 (fun _ => by kernel_rfl) ((HX1.out.keepB hS).cellv rfl)) hS uS
    ·intro f w1 hS hf aA hA
     have r10 := qA 10 2 hA sbTtol3 zsz (hf 2 (by decide))
     obtain ⟨q9, c9, hv9, _⟩ := (HC.out.keep (HB.out.trans (hS.mono HB.out.size)))
     exact fV rfl rfl _ (ex_len 26 47 (.tmp 10) rfl (by kernel_rfl) q9 (L).length c9 (r10.trans hv9)) hS uS
    ·intro f w1 hS hf aA hA
     have r8 := qA 8 0 hA sbTtol3 zsz (hf 0 (by decide))
     have r11 := qA 11 3 hA sbTtol3 zsz (hf 3 (by decide))
     exact fV rfl rfl _ (Eq.trans (ex_int .lss _ _ (.tmp 8) (.tmp 11) rfl .i64 ((i : Int)) (((L).length : Int)) r8 r11 (.bool (decide (((i : Int)) < (((L).length : Int))))) (fun _ => rfl)) (by rw [HLT.out])) hS uS
   intro f u4 hS hf hap
   have h0 := eqL (hf 0 (by decide)) rfl
   have h1 := eqL (hf 1 (by decide)) rfl
   have h2 : f 2 = v := hf 2 (by decide)
   have h3 := eqL (hf 3 (by decide)) rfl
   have h4 := eqL (hf 4 (by decide)) rfl
   clear hf hap
   clear zsz z4 z1
   subst ha0
   simp only [slotsTtol3, putAll, h0, h1, h2, h3, h4, Act.put, List.setIfInBounds_toArray, List.set_cons_zero, List.set_cons_succ]
   clear h0 h1 h2 h3 h4
   refine tl_nil ?_
   replace HX7 := Lib.hid (HX7.out.keepB hS)
   replace HX1 := Lib.hid (HX1.out.keepB hS)
   replace HX2 := Lib.hid (HX2.out.keepB hS)
   replace HZ := Lib.hid (HZ.out.keep hS)
   replace HBS := Lib.hid (HBS.out.keep hS)
   replace HB := Lib.hid (HB.out.trans (hS.mono HB.out.size))
   clear hS
   go_upto_region 5 with fail
   have HST : Hid (Below u4.heap.size u4 u4.drew) := Lib.hid (Below.refl _ _).drew
   replace HX7 := Lib.hid (HX7.out.keepB HST.out)
   replace HX1 := Lib.hid (HX1.out.keepB HST.out)
   replace HX2 := Lib.hid (HX2.out.keepB HST.out)
   replace HZ := Lib.hid (HZ.out.keep HST.out)
   replace HBS := Lib.hid (HBS.out.keep HST.out)
   replace HB := Lib.hid (HB.out.trans (HST.out.mono HB.out.size))
   clear HST
   obtain ⟨a, cp2, hv, _, hc⟩ := (HC.out.keep HB.out).el hlt
   have HVV := Lib.hid hv
   have HCC := Lib.hid hc
   clear hv hc
   refine wp_act (fun a0 ha0 => ?_)
   have zsz : a0.tmps.size = 27 := by rw [ha0]; rfl
   have z3 : a0.eval (.tmp 3) = .pointer (some ⟨b1_3, 0, none⟩) := by rw [ha0]; rfl
   have z1 : a0.eval (.tmp 1) = .pointer (some ⟨g1, 0, none⟩) := by rw [ha0]; rfl
   have z4 : a0.eval (.tmp 4) = .int .i64 ((i : Int)) := by rw [ha0]; rfl
   refine wrD [] slotsTto5 waitTto5 [Fct.val Flz 0 (.pointer (some ⟨b1_3, 1, none⟩)), Fct.val Flz 1 (vz), Fct.val Flz 2 (.pointer (some ⟨g1, 1, none⟩)), Fct.val Flz 3 (v), Fct.val Flz 4 (.int .i64 ((i : Int))), Fct.val Flz 5 (.pointer (some (a.add (i * 65)))), Fct.val Flz 6 (aggC ((L[i]))), Fct.val Flz 7 (aggC ((L[i]))), Fct.obj 8 (fun v w => ∃ zz, v = .slice (some ⟨zz, 0, none⟩) 1 1 ∧ u4.drew.heap.size ≤ zz ∧ Has w zz 87 (encC ((L[i])))) (fun _ _ _ ⟨zz, a, b⟩ he => ⟨zz, a, ⟨b.1, b.2.flz he (by decide)⟩⟩)] (fun w' => Below u4.drew.heap.size u4.drew w') _ 9 3 chkTto5 (by kernel_rfl) (by kernel_rfl) (by kernel_rfl) (by kernel_rfl) (by decide) (Below.refl _ _) ?_ ?_
   ·refine lt_s (lt_s (lt_s (lt_s (lt_s (lt_s (lt_s (lt_s (lt_s (lt_0) ?_) ?_) ?_) ?_) ?_) ?_) ?_) ?_) ?_
    ·intro f w1 hS hf aA hA
     have r3 := qO 3 hA z3
     exact fV rfl rfl _ (fldT1 52 (Or.inr rfl) (.tmp 3) rfl b1_3 r3) hS uS
    ·intro f w1 hS hf aA hA
     have r15 := qA 15 0 hA sbTto5 zsz (hf 0 (by decide))
     exact fV rfl rfl _ (ex_load1 50 (.tmp 15) rfl ⟨b1_3, 1, none⟩ r15 (fun _ => by kernel_rfl) ((HX7.out.keepB hS).cellv rfl)) hS uS
    ·intro f w1 hS hf aA hA
     have r1 := qO 1 hA z1
     exact fV rfl rfl _ (fldT1 28 (Or.inl rfl) (.tmp 1) rfl g1 r1) hS uS
    ·intro f w1 hS hf aA hA
     have r17 := qA 17 2 hA sbTto5 zsz (hf 2 (by decide))
     exact fV rfl rfl _ (ex_load1 26 (.tmp 17) rfl ⟨g1, 1, none⟩ r17 (fun _ => by kernel_rfl) ((HX1.out.keepB hS).cellv rfl)) hS uS
    ·intro f w1 hS hf aA hA
     have r4 := qO 4 hA z4
     exact fV rfl rfl _ (ex_move (.tmp 4) rfl r4) hS uS
    ·intro f w1 hS hf aA hA
     have r18 := qA 18 3 hA sbTto5 zsz (hf 3 (by decide))
     have r19 := qA 19 4 hA sbTto5 zsz (hf 4 (by decide))
     exact fV rfl rfl _ (ex_indexS 26 47 (.tmp 18) (.tmp 19) rfl a L.length cp2 i 65 (by kernel_rfl) (fun _ => by kernel_rfl) (Eq.trans r18 HVV.out) r19 hlt) hS uS
    ·intro f w1 hS hf aA hA
     have r20 := qA 20 5 hA sbTto5 zsz (hf 5 (by decide))
     exact fV rfl rfl _ (ex_loadR 47 (.tmp 20) rfl (a.add (i * 65)) r20 (fun _ => by kernel_rfl) (encC ((L[i]))) (by rw [encC_len]; kernel_rfl) (HCC.out w1 hS.block)) hS uS
    ·intro f w1 hS hf aA hA
     have r21 := qA 21 6 hA sbTto5 zsz (hf 6 (by decide))
     exact fC rfl rfl 43 #[(.tmp 21)] _ rfl #[aggC ((L[i]))] (mp1 r21) (fun w => by kernel_rfl) _ (cellOf16_any ((L[i])) w1) hS (fun _ _ h => uS.trans h)
    ·intro f w1 hS hf aA hA
     have r22 := qA 22 7 hA sbTto5 zsz (hf 7 (by decide))
     exact flw_wp rfl rfl (fun K hK => wp_one_ce 50 87 elR (.tmp 22) rfl ((L[i])) r22 (hK _ _ (hS.alloc hS.size _) (Flz.al _ _) ⟨_, uS, hS.size, Has.made' _ _ _ _ rfl⟩))
   intro f u8 hS hf hap
   have h0 := eqL (hf 0 (by decide)) rfl
   have h1 := eqL (hf 1 (by decide)) rfl
   have h2 := eqL (hf 2 (by decide)) rfl
   have h3 : f 3 = v := hf 3 (by decide)
   have h4 := eqL (hf 4 (by decide)) rfl
   have h5 := eqL (hf 5 (by decide)) rfl
   have h6 := eqL (hf 6 (by decide)) rfl
   have h7 := eqL (hf 7 (by decide)) rfl
   obtain ⟨v5_8, h8, hu8⟩ := hf 8 (by decide)
   have HU5_8 := Lib.hid hu8
   clear hu8
   clear hf hap
   clear zsz z3 z1 z4
   subst ha0
   simp only [slotsTto5, putAll, h0, h1, h2, h3, h4, h5, h6, h7, h8, Act.put, List.setIfInBounds_toArray, List.set_cons_zero, List.set_cons_succ]
   clear h0 h1 h2 h3 h4 h5 h6 h7 h8
   have HZ8 := Lib.hid (HZ.out.keep hS)
   have HO18 := HU5_8
   have HX8 := Lib.hid (HX7.out.keepB hS)
   have HBS8 : Hid (Szl b0 u8) := Lib.hid (HBS.out.keep hS)
   have HB8 := Lib.hid (HB.out.trans (hS.mono HB.out.size))
   have HX18 := Lib.hid (HX1.out.keepB hS)
   have HX28 := Lib.hid (HX2.out.keepB hS)
   clear hS HZ HX7 HBS HB HX1 HX2
   refine tl_step rfl rfl (fun K hK => wp_append_ce 50 87 elR (.tmp 16) (.tmp 23) rfl b0 vz (L.take i) rfl HZ8.out _ [L[i]] rfl (Cs.lit1 HO18.out.2) HSM.out HBS8.out (fun vn w8 h1 h2 => hK _ _ ?_))
   have HZ9 := Lib.hid h1
   have HX9 := Lib.hid ((show Grw u8 w8 _ from h2).has HX8.out (HZ8.out.ne HX8.out (by decide)))
   have HB9 := Lib.hid (HB8.out.grown h2 HB8.out.size (fun k hk => Nat.le_trans HBB.out (HZ8.out.base k hk)))
   have HBS9 : Hid (Szl b0 w8) := Lib.hid (Nat.le_trans HBS8.out h2.size)
   have HX19 := Lib.hid ((show Grw u8 w8 _ from h2).has HX18.out (HZ8.out.ne HX18.out (by decide)))
   have HX29 := Lib.hid ((show Grw u8 w8 _ from h2).has HX28.out (HZ8.out.ne HX28.out (by decide)))
   clear h1 h2 HZ8 HX8 HB8 HBS8 HO18 HX18 HX28
   try simp only [Act.put]
   refine tl_pure rfl rfl (.pointer (some ⟨b1_3, 1, none⟩)) (fldT1 52 (.inr rfl) (.tmp 3) rfl b1_3 rfl) ?_
   try simp only [Act.put]
   refine tl_step rfl rfl (fun K hK => wp_store_at 50 (by kernel_rfl) (.tmp 25) (.tmp 24) rfl b1_3 1 52 [.int .u64 (s : Int), vz] HX9.out (by simp) rfl vn HZ9.out.one rfl (fun w9 hp hbl hot => hK _ _ ?_))
   have HX7 : Hid (Has w9 b1_3 52 [.int .u64 (s : Int), vn]) := Lib.hid hp
   have HZ := Lib.hid (HZ9.out.off fun k hk => hot k (HZ9.out.ne HX9.out (by decide) k hk))
   have HB := Lib.hid (HB9.out.trans (hbl _ HG7.out))
   have HBS : Hid (Szl b0 w9) := Lib.hid (Nat.le_trans HBS9.out (hbl 0 (Nat.zero_le _)).size)
   have HX1 := Lib.hid ((hot _ HNEb1.out).trans HX19.out)
   have HX2 := Lib.hid ((hot _ HNEb2.out).trans HX29.out)
   clear hp hbl hot HX9 HZ9 HB9 HBS9 HX19 HX29
   refine tl_nilN ?_
   try simp only [Act.put]
   go_wp2_with fail
   go_roundw
   case rel => exact ⟨i + 1, by omega, by go_num, ⟨_, HX7.out, by rw [HTK.out]; exact HZ.out⟩, ⟨HX1.out, HX2.out⟩, HBS.out, HB.out⟩
   case measure => simp [intOf]; omega
  ·have hiS : i = L.length := by omega
   have HTA : Hid (L.take i = L) := Lib.hid (by rw [hiS, List.take_length])
   have HLT : Hid (decide (((i : Int)) < (((L).length : Int))) = false) := Lib.hid (decide_eq_false (by omega))
   go_upto_region 3 with fail
   refine wp_act (fun a0 ha0 => ?_)
   have zsz : a0.tmps.size = 27 := by rw [ha0]; rfl
   have z4 : a0.eval (.tmp 4) = .int .i64 ((i : Int)) := by rw [ha0]; rfl
   have z1 : a0.eval (.tmp 1) = .pointer (some ⟨g1, 0, none⟩) := by rw [ha0]; rfl
   refine wrO [] slotsTtol3 waitTtol3 [Fct.val Flz 0 (.int .i64 ((i : Int))), Fct.val Flz 1 (.pointer (some ⟨g1, 1, none⟩)), Fct.val Flz 2 (v), Fct.val Flz 3 (.int .i64 (((L).length : Int))), Fct.val Flz 4 (.bool false)] (fun w' => Below wr.heap.size wr w') _ 5 0 chkTtol3 (by kernel_rfl) (by kernel_rfl) (by kernel_rfl) (by decide) (Below.refl _ _) ?_ ?_
   ·refine lt_s (lt_s (lt_s (lt_s (lt_s (lt_0) ?_) ?_) ?_) ?_) ?_
    ·intro f w1 hS hf aA hA
     have r4 := qO 4 hA z4
     exact fV rfl rfl _ (ex_move (.tmp 4) rfl r4) hS uS
    ·intro f w1 hS hf aA hA
     have r1 := qO 1 hA z1
     exact fV rfl rfl _ (fldT1 28 (Or.inl rfl) (.tmp 1) rfl g1 r1) hS uS
    ·intro f w1 hS hf aA hA
     have r9 := qA 9 1 hA sbTtol3 zsz (hf 1 (by decide))
     exact fV rfl rfl _ (ex_load1 26 (.tmp 9) rfl ⟨g1, 1, none⟩ r9 (fun _ => by kernel_rfl) ((HX1.out.keepB hS).cellv rfl)) hS uS
    ·intro f w1 hS hf aA hA
     have r10 := qA 10 2 hA sbTtol3 zsz (hf 2 (by decide))
     obtain ⟨q9, c9, hv9, _⟩ := (HC.out.keep (HB.out.trans (hS.mono HB.out.size)))
     exact fV rfl rfl _ (ex_len 26 47 (.tmp 10) rfl (by kernel_rfl) q9 (L).length c9 (r10.trans hv9)) hS uS
    ·intro f w1 hS hf aA hA
     have r8 := qA 8 0 hA sbTtol3 zsz (hf 0 (by decide))
     have r11 := qA 11 3 hA sbTtol3 zsz (hf 3 (by decide))
     exact fV rfl rfl _ (Eq.trans (ex_int .lss _ _ (.tmp 8) (.tmp 11) rfl .i64 ((i : Int)) (((L).length : Int)) r8 r11 (.bool (decide (((i : Int)) < (((L).length : Int))))) (fun _ => rfl)) (by rw [HLT.out])) hS uS
   intro f u4 hS hf hap
   have h0 := eqL (hf 0 (by decide)) rfl
   have h1 := eqL (hf 1 (by decide)) rfl
   have h2 : f 2 = v := hf 2 (by decide)
   have h3 := eqL (hf 3 (by decide)) rfl
   have h4 := eqL (hf 4 (by decide)) rfl
   clear hf hap
   clear zsz z4 z1
   subst ha0
   simp only [slotsTtol3, putAll, h0, h1, h2, h3, h4, Act.put, List.setIfInBounds_toArray, List.set_cons_zero, List.set_cons_succ]
   clear h0 h1 h2 h3 h4
   refine tl_nil ?_
   replace HX7 := Lib.hid (HX7.out.keepB hS)
   replace HX1 := Lib.hid (HX1.out.keepB hS)
   replace HX2 := Lib.hid (HX2.out.keepB hS)
   replace HZ := Lib.hid (HZ.out.keep hS)
   replace HBS := Lib.hid (HBS.out.keep hS)
   replace HB := Lib.hid (HB.out.trans (hS.mono HB.out.size))
   clear hS
   have HNE_b1_3_g2 : Hid (b1_3 ≠ g2) := Lib.hid (Ne.symm HNEb2.out)
   clear HX1 HBS
   go_upto_region 6 with fail
   refine wp_act (fun a0 ha0 => ?_)
   have zsz : a0.tmps.size = 27 := by rw [ha0]; rfl
   have z3 : a0.eval (.tmp 3) = .pointer (some ⟨b1_3, 0, none⟩) := by rw [ha0]; rfl
   refine wrO [] slotsTtoe6 waitTtoe6 [Fct.val Flz 0 (.agg #[.int .u64 (s : Int), vz])] (fun w' => Below u4.heap.size u4 w') _ 1 1 chkTtoe6 (by kernel_rfl) (by kernel_rfl) (by kernel_rfl) (by decide) (Below.refl _ _) ?_ ?_
   ·refine lt_s (lt_0) ?_
    ·intro f w1 hS hf aA hA
     have r3 := qO 3 hA z3
     exact fV rfl rfl _ (ex_loadR 52 (.tmp 3) rfl ⟨b1_3, 0, none⟩ r3 (fun _ => by kernel_rfl) [.int .u64 (s : Int), vz] (by kernel_rfl) ((HX7.out.keepB hS).part [.int .u64 (s : Int), vz] 0 (fun j u hu => by rw [Nat.zero_add]; exact hu))) hS uS
   intro f u7 hS hf hap
   have h0 := eqL (hf 0 (by decide)) rfl
   clear hf hap
   clear zsz z3
   subst ha0
   simp only [slotsTtoe6, putAll, h0, Act.put, List.setIfInBounds_toArray, List.set_cons_zero, List.set_cons_succ]
   clear h0
   have hBS := HB.out.trans (hS.mono HB.out.size)
   replace HX7 := Lib.hid (HX7.out.keepB hS)
   replace HX2 := Lib.hid (HX2.out.keepB hS)
   replace HZ := Lib.hid (HZ.out.keep hS)
   clear hS
   refine tl_store rfl (by kernel_rfl) 52 (.tmp 2) (.tmp 26) rfl g2 ([.int .u64 (s : Int), vz]) _ rfl rfl _ HX2.out (by kernel_rfl) rfl (tb_ones _ HZ.out.one) ?_
   intro u8 hp hbl hot
   replace HX7 : Hid (Has u8 b1_3 52 ([.int .u64 (s : Int), vz])) := Lib.hid ((hot _ (HNE_b1_3_g2.out)).trans HX7.out)
   replace HZ := Lib.hid (HZ.out.hotb HX2.out ⟨_, _, _, rfl⟩ (by decide) (hbl 0 (Nat.zero_le _)).size hot)
   replace HX2 : Hid (Has u8 g2 52 ([.int .u64 (s : Int), vz])) := Lib.hid hp
   replace hBS := hBS.trans (hbl _ HGg2.out)
   clear hp hbl hot
   try simp only [Act.put]
   refine tl_nil ?_
   replace HB := Lib.hid hBS
   clear hBS
   go_wp2_with fail
   (try simp only [Exit.inBlock, Exit.then])
   refine bodyPost_ret (v := .agg #[.int .u64 (s : Int), vz]) ?_ rfl ⟨⟨_, rfl, vz, rfl, (by have := HZ.out.cs; rwa [HTA.out] at this)⟩, HB.out⟩
   exact results_cell_row rfl _ _ g2 52 _ (0, 0) _ rfl HX2.out Tryd.underlying52 rfl (by kernel_rfl)
theorem tableOf_any (s : Nat) (v : Value) (L : List Ce) (w : World) (hM : L.length ≤ 100000) (hC : Cs w v L) : Calls Tryd.prog 18 #[.agg #[.int .u64 (s : Int), v]] w fun e w' => (∃ v, e = .returned v ∧ ∃ x, v = .agg #[.int .u64 (s : Int), x] ∧ Cs w' x L) ∧ Below w.heap.size w w' := tableOf_b s v L w w (Below.refl _ _) hM hC
end Go.Proofs.YtnkcehmgagpadaaDoor
