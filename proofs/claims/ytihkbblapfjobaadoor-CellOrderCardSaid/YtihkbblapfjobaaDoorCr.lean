/- The law CellOrder: it answers true. Conditions: the sums' tables are laid; what comes in lies in memory. -/
import Derived.Test.YtihkbblapfjobaaDoorAw
import Derived.Test.YtihkbblapfjobaaDoorCb
import Derived.Test.YtihkbblapfjobaaDoorFox
namespace Go.Proofs.YtihkbblapfjobaaDoor
open Go.RowKit
theorem add_nat (T : TypeId) (a b : Nat) (h : a + b < 9223372036854775808) (w : World) : (binOp .add T (.int .i64 (a : Int)) (.int .i64 (b : Int))).run Tryd.prog w = .ok (.int .i64 ((a + b : Nat) : Int)) w := by
  have h1 : IntKind.i64.wrap ((a : Int) + (b : Int)) = ((a + b : Nat) : Int) := by rw [IntKind.wrap_i64]; omega
  show Result.ok (Value.int .i64 (IntKind.i64.wrap ((a : Int) + (b : Int)))) w = _
  rw [h1]
def waitCr1 (i : Nat) : List Nat := ([[], [0]] : List (List Nat)).getD i []
def slotsCr1 : List (Nat × Nat) := [(9, 0), (10, 1)]
theorem sbCr1 : slotsB slotsCr1 = true := by kernel_rfl
theorem chkCr1 : flwO slotsCr1 waitCr1 2 (regOf Tryd.f5.body 1) = true := by kernel_rfl
def waitCr5 (i : Nat) : List Nat := ([[], [], [], [], [0, 1, 2, 3], [0, 1, 2, 3, 4]] : List (List Nat)).getD i []
def slotsCr5 : List (Nat × Nat) := [(23, 0), (24, 1), (5, 2), (6, 3)]
theorem sbCr5 : slotsB slotsCr5 = true := by kernel_rfl
theorem chkCr5 : flwO slotsCr5 waitCr5 4 (regOf Tryd.f5.body 5) = true := by kernel_rfl
def waitCr9 (i : Nat) : List Nat := ([[], [], [], [1, 2], [3], [0, 4], [0, 1, 2, 3, 4, 5]] : List (List Nat)).getD i []
def slotsCr9 : List (Nat × Nat) := [(31, 0), (32, 1), (33, 2), (34, 3), (35, 4), (36, 5)]
theorem sbCr9 : slotsB slotsCr9 = true := by kernel_rfl
theorem chkCr9 : flwB slotsCr9 waitCr9 6 (regOf Tryd.f5.body 9) = true := by kernel_rfl
def waitCr10 (i : Nat) : List Nat := ([[], [], [], [], [], [4], [3, 5], [2, 6], [], [8], [7, 9], [1, 10], [11], [0, 12], [0, 1, 2, 3, 4, 5, 6, 7, 8, 9, 10, 11, 12, 13]] : List (List Nat)).getD i []
def slotsCr10 : List (Nat × Nat) := [(37, 0), (38, 1), (39, 2), (40, 3), (41, 4), (42, 5), (43, 6), (44, 7), (45, 8), (46, 9), (47, 10), (48, 11), (49, 12), (50, 13)]
theorem sbCr10 : slotsB slotsCr10 = true := by kernel_rfl
theorem chkCr10 : flwB slotsCr10 waitCr10 14 (regOf Tryd.f5.body 10) = true := by kernel_rfl
def waitCr11 (i : Nat) : List Nat := ([[], [], [0, 1], [2], [3], [3, 4], [3], [3, 6], [3, 5, 7], [3, 8], [9], [10], [10], [10, 11, 12], [10, 13], [10, 14], [10, 15]] : List (List Nat)).getD i []
def slotsCr11 : List (Nat × Nat) := [(51, 0), (52, 1), (53, 2), (54, 3), (55, 4), (56, 5), (57, 6), (58, 7), (59, 8), (60, 9), (61, 10), (62, 11), (63, 12), (64, 13), (65, 14), (66, 15), (67, 16)]
theorem sbCr11 : slotsB slotsCr11 = true := by kernel_rfl
theorem chkCr11 : flwO slotsCr11 waitCr11 17 (regOf Tryd.f5.body 11) = true := by kernel_rfl
def waitCr16 (i : Nat) : List Nat := ([[], [], [], [1, 2], [3], [0, 4], [0, 1, 2, 3, 4, 5]] : List (List Nat)).getD i []
def slotsCr16 : List (Nat × Nat) := [(74, 0), (75, 1), (76, 2), (77, 3), (78, 4), (79, 5)]
theorem sbCr16 : slotsB slotsCr16 = true := by kernel_rfl
theorem chkCr16 : flwB slotsCr16 waitCr16 6 (regOf Tryd.f5.body 16) = true := by kernel_rfl
def waitCr17 (i : Nat) : List Nat := ([[], [0], [1]] : List (List Nat)).getD i []
def slotsCr17 : List (Nat × Nat) := [(80, 0), (81, 1), (4, 2)]
theorem sbCr17 : slotsB slotsCr17 = true := by kernel_rfl
theorem chkCr17 : flwO slotsCr17 waitCr17 3 (regOf Tryd.f5.body 17) = true := by kernel_rfl
set_option maxHeartbeats 16000000 in
set_option maxRecDepth 100000 in
theorem cellOrder_any (L : List Su) (qa : Option Addr) (ca : Nat) (turn : Int) (ht : -9223372036854775808 ≤ turn ∧ turn ≤ 9223372036854775807) (w : World) (hL : Laid w) (ha : Sees w w.heap.size qa (rowU L)) :
    Calls Tryd.prog 5 #[.slice qa L.length ca, .int .i64 turn] w fun e w' => e = .returned (.bool true) ∧ Below w.heap.size w w' := by
  have HL := Lib.hid hL
  have HSZ := Lib.hid hL.size
  have HSA := Lib.hid ha
  obtain ⟨n, hn⟩ : ∃ n, L.length = n := ⟨_, rfl⟩
  have HN := Lib.hid hn
  have HB : Hid (Below w.heap.size w w) := Lib.hid (Below.refl _ _)
  rw [hn]
  clear ha hn hL
  go_enter Tryd.func5, Tryd.ntmps5
  go_upto_region 1 with fail
  refine wp_act (fun a0 ha0 => ?_)
  have zsz : a0.tmps.size = 82 := by rw [ha0]; rfl
  refine wp_region_flwo (E := Flz) [] slotsCr1 waitCr1 [Fct.val Flz 0 (.bool true), Fct.val Flz 1 (.bool false)] (fun w' => Below w.heap.size w w') _ 2 0 chkCr1 (by kernel_rfl) rfl (by kernel_rfl) (by decide) (Below.refl _ _) ?_ ?_
  · refine lt_s (lt_s (lt_0) ?_) ?_
    · intro f w1 hS hf
      generalize hA : putAll _ _ f = aA
      exact flw_call rfl rfl 9 #[] _ rfl #[] (by kernel_rfl) (fun w => by kernel_rfl) (fun v _ => v = .bool true) (awake13_any w1 (HL.out.keep (HB.out.trans (hS.mono HB.out.size)) HSZ.out)) (fun v w' hr hb => ⟨hS.trans (hb.mono hS.size), Flz.of hb, (updF_self _ _ _).trans hr⟩)
    · intro f w1 hS hf
      generalize hA : putAll _ _ f = aA
      have h9 : f 0 = .bool true := hf 0 (by decide)
      have r9 : aA.eval (.tmp 9) = .bool true := by rw [← hA]; exact putAll_at f 9 0 slotsCr1 a0 sbCr1 (by kernel_rfl) zsz rfl h9
      exact flw_val rfl rfl (.bool false) (ex_not _ (.tmp 9) rfl r9) hS (Flz.refl _) (updF_self _ _ _)
  intro f w1 hS hf hap
  have h0 : f 0 = .bool true := hf 0 (by decide)
  have h1 : f 1 = .bool false := hf 1 (by decide)
  clear hf hap
  clear zsz
  subst ha0
  simp only [slotsCr1, putAll, h0, h1, Act.put, List.setIfInBounds_toArray, List.set_cons_zero, List.set_cons_succ]
  clear h0 h1
  refine tl_nil ?_
  replace HB := Lib.hid (HB.out.trans (hS.mono HB.out.size))
  clear hS
  by_cases h1 : n < 1
  · have k1 : (n : Int) < 1 := by omega
    go_wp2_with fail
    go_ret
    exact ⟨rfl, HB.out⟩
  have k1 : ¬ (n : Int) < 1 := by omega
  by_cases h2 : 60 < n
  · have k2 : (60 : Int) < (n : Int) := by omega
    go_wp2_with fail
    go_ret
    exact ⟨rfl, HB.out⟩
  have k2 : ¬ (60 : Int) < (n : Int) := by omega
  by_cases h3 : turn < 0
  · go_wp2_with fail
    go_ret
    exact ⟨rfl, HB.out⟩
  obtain ⟨t, rfl⟩ : ∃ t : Nat, turn = (t : Int) := ⟨turn.toNat, by omega⟩
  obtain ⟨r, hr⟩ : ∃ r, r = t % n := ⟨_, rfl⟩
  have hrn : r < n := by rw [hr]; exact Nat.mod_lt _ (by omega)
  have HR := Lib.hid hr
  clear hr
  go_upto_region 5 with fail
  refine wp_act (fun a0 ha0 => ?_)
  have zsz : a0.tmps.size = 82 := by rw [ha0]; rfl
  refine wp_region_flwo (E := Flz) [2, 3] slotsCr5 waitCr5 [Fct.val Flz 0 (aggC zC), Fct.val Flz 1 (aggC zC), Fct.obj 2 (fun v w => ∃ g, v = .pointer (some ⟨g, 0, none⟩) ∧ w1.heap.size ≤ g ∧ Has w g 28 (encC zC)) (fun _ _ _ ⟨g, a, b, c⟩ he => ⟨g, a, b, c.flz he (by decide)⟩), Fct.obj 3 (fun v w => ∃ g, v = .pointer (some ⟨g, 0, none⟩) ∧ w1.heap.size ≤ g ∧ Has w g 28 (encC zC)) (fun _ _ _ ⟨g, a, b, c⟩ he => ⟨g, a, b, c.flz he (by decide)⟩)] (fun w' => Below w1.heap.size w1 w') _ 4 2 chkCr5 (by kernel_rfl) rfl (by kernel_rfl) (by decide) (Below.refl _ _) ?_ ?_
  · refine lt_s (lt_s (lt_s (lt_s (lt_0) ?_) ?_) ?_) ?_
    · intro f w1 hS hf
      generalize hA : putAll _ _ f = aA
      exact flw_val rfl rfl (aggC zC) (ex_build 28 _ rfl (encC zC).toArray [] (by kernel_rfl) (builtC0)) hS (Flz.refl _) (updF_self _ _ _)
    · intro f w1 hS hf
      generalize hA : putAll _ _ f = aA
      exact flw_val rfl rfl (aggC zC) (ex_build 28 _ rfl (encC zC).toArray [] (by kernel_rfl) (builtC0)) hS (Flz.refl _) (updF_self _ _ _)
    · intro f w1 hS hf
      generalize hA : putAll _ _ f = aA
      exact flw_wpA rfl rfl (fun K hK => wp_alloc_row 28 rfl (aggC zC) (fun w => by kernel_rfl) (hK _ _ (hS.alloc hS.size _) (Flz.al _ _) ⟨_, updF_self _ _ _, hS.size, Has.made' _ _ _ _ rfl⟩ (by
        intro i hi hne hl
        simp only [List.mem_cons, List.not_mem_nil, or_false] at hi
        rcases hi with rfl | rfl
        · exact absurd rfl hne
        · obtain ⟨g', hl1, _, hl2⟩ := hl
          rw [hl1]
          exact ptr_ne hl2.lt)))
    · intro f w1 hS hf
      generalize hA : putAll _ _ f = aA
      exact flw_wpA rfl rfl (fun K hK => wp_alloc_row 28 rfl (aggC zC) (fun w => by kernel_rfl) (hK _ _ (hS.alloc hS.size _) (Flz.al _ _) ⟨_, updF_self _ _ _, hS.size, Has.made' _ _ _ _ rfl⟩ (by
        intro i hi hne hl
        simp only [List.mem_cons, List.not_mem_nil, or_false] at hi
        rcases hi with rfl | rfl
        · obtain ⟨g', hl1, _, hl2⟩ := hl
          rw [hl1]
          exact ptr_ne hl2.lt
        · exact absurd rfl hne)))
  intro f u5 hS hf hap
  have h0 : f 0 = aggC zC := hf 0 (by decide)
  have h1 : f 1 = aggC zC := hf 1 (by decide)
  obtain ⟨b5_2, h2, hgb2, hhb2⟩ := hf 2 (by decide)
  obtain ⟨b5_3, h3, hgb3, hhb3⟩ := hf 3 (by decide)
  have hne2_3 : b5_2 ≠ b5_3 := fun e => hap 2 (by decide) 3 (by decide) (by decide) (by rw [h2, h3, e])
  clear hf hap
  clear zsz
  subst ha0
  simp only [slotsCr5, putAll, h0, h1, h2, h3, Act.put, List.setIfInBounds_toArray, List.set_cons_zero, List.set_cons_succ]
  clear h0 h1 h2 h3
  refine tl_store rfl (by kernel_rfl) 28 (.tmp 5) (.tmp 23) rfl b5_2 (encC zC) _ rfl rfl _ hhb2 (by rw [encC_len]; kernel_rfl) (by simp only [encC_len]) (encC_ones _) ?_
  intro w5_1 hp2 hbl hot
  replace hS := hS.trans (hbl _ hgb2)
  replace hhb3 := (hot _ (Ne.symm hne2_3)).trans hhb3
  clear hbl hot hhb2
  try simp only [Act.put]
  refine tl_store rfl (by kernel_rfl) 28 (.tmp 6) (.tmp 24) rfl b5_3 (encC zC) _ rfl rfl _ hhb3 (by rw [encC_len]; kernel_rfl) (by simp only [encC_len]) (encC_ones _) ?_
  intro w5 hp3 hbl hot
  replace hS := hS.trans (hbl _ hgb3)
  replace hp2 := (hot _ hne2_3).trans hp2
  clear hbl hot hhb3
  try simp only [Act.put]
  refine tl_nil ?_
  have HBW := Lib.hid HB.out.size
  replace HB := Lib.hid (HB.out.trans (hS.mono HB.out.size))
  clear hS
  have HGb5_2 : Hid (w.heap.size ≤ b5_2) := Lib.hid (Nat.le_trans HBW.out hgb2)
  have HX_b5_2 : Hid (Has w5 b5_2 28 (encC zC)) := Lib.hid hp2
  clear hp2 hgb2
  have HGb5_3 : Hid (w.heap.size ≤ b5_3) := Lib.hid (Nat.le_trans HBW.out hgb3)
  have HX_b5_3 : Hid (Has w5 b5_3 28 (encC zC)) := Lib.hid hp3
  clear hp3 hgb3
  clear HBW
  have HNE_b5_2_b5_3 := Lib.hid hne2_3
  clear hne2_3
  go_wp2_with fail
  go_loopw [7] (fun v wr => ∃ k : Nat, k ≤ n ∧ v = .int .i64 k ∧ Has wr b5_2 28 (encC (putL zC (L.take k))) ∧ Has wr b5_3 28 (encC (putL zC (rotS L r k))) ∧ Below w.heap.size w wr) (fun v _ => n - (intOf v).toNat)
  case atStart => exact ⟨0, by omega, rfl, HX_b5_2.out, HX_b5_3.out, HB.out⟩
  case round =>
    clear HX_b5_2 HX_b5_3 HB
    rename_i wr
    obtain ⟨k, hk, rfl, hx1, hx2, hB⟩ := hrel
    have HX_b5_2 := Lib.hid hx1
    have HX_b5_3 := Lib.hid hx2
    have HB := Lib.hid hB
    clear hx1 hx2 hB
    by_cases hlt : k < n
    · have hkL : k < L.length := by rw [HN.out]; exact hlt
      obtain ⟨p, hp⟩ : ∃ p, p = (k + r) % n := ⟨_, rfl⟩
      have hpn : p < n := by rw [hp]; exact Nat.mod_lt _ (by omega)
      have hpL : p < L.length := by rw [HN.out]; exact hpn
      obtain ⟨aa, rfl, _, hc⟩ := Ss.el HSA.out hkL
      obtain ⟨ab, hab, _, hd⟩ := Ss.el HSA.out hpL
      obtain rfl : aa = ab := Option.some.inj hab
      have HTK : Hid (L.take (k + 1) = L.take k ++ [L[k]]) := Lib.hid (List.take_succ_eq_append_getElem hkL)
      have HRT : Hid (rotS L r (k + 1) = rotS L r k ++ [L[p]]) := Lib.hid (by rw [rotS_succ, HN.out, ← hp, getElem!_pos L p hpL])
      have HEL : Hid (∀ w', Below w.heap.size w w' → ∀ j u, (encU L[k])[j]? = some u → w'.cell? ((aa.add (k * 32)).add j) = some u) := Lib.hid hc
      have HEP : Hid (∀ w', Below w.heap.size w w' → ∀ j u, (encU L[p])[j]? = some u → w'.cell? ((aa.add (p * 32)).add j) = some u) := Lib.hid hd
      have HRM : Hid (∀ w, (binOp .rem 3 (.int .i64 (t : Int)) (.int .i64 (n : Int))).run Tryd.prog w = .ok (.int .i64 (r : Int)) w) := Lib.hid (fun w => by rw [HR.out]; exact rem_nat _ t n (by omega) w)
      have HAD : Hid (∀ w, (binOp .add 3 (.int .i64 (k : Int)) (.int .i64 (r : Int))).run Tryd.prog w = .ok (.int .i64 ((k + r : Nat) : Int)) w) := Lib.hid (fun w => add_nat _ k r (by omega) w)
      have HRN : Hid (∀ w, (binOp .rem 3 (.int .i64 ((k + r : Nat) : Int)) (.int .i64 (n : Int))).run Tryd.prog w = .ok (.int .i64 (p : Int)) w) := Lib.hid (fun w => by rw [hp]; exact rem_nat _ (k + r) n (by omega) w)
      clear hc hd hab
      generalize L[k] = x at *
      generalize L[p] = y at *
      have k3 : (k : Int) < (n : Int) := by omega
      go_upto_region 9 with fail
      have HST : Hid (Below wr.heap.size wr wr.drew) := Lib.hid (Below.refl _ _).drew
      replace HX_b5_2 := Lib.hid (HX_b5_2.out.keepB HST.out)
      replace HX_b5_3 := Lib.hid (HX_b5_3.out.keepB HST.out)
      replace HB := Lib.hid (HB.out.trans (HST.out.mono HB.out.size))
      clear HST
      refine wp_act (fun a0 ha0 => ?_)
      have zsz : a0.tmps.size = 82 := by rw [ha0]; rfl
      have z5 : a0.eval (.tmp 5) = .pointer (some ⟨b5_2, 0, none⟩) := by rw [ha0]; rfl
      have z0 : a0.eval (.tmp 0) = .slice (some aa) n ca := by rw [ha0]; rfl
      have z7 : a0.eval (.tmp 7) = .int .i64 ((k : Int)) := by rw [ha0]; rfl
      refine wp_region_flw (E := Flz) [] slotsCr9 waitCr9 [Fct.val Flz 0 (aggC (putL zC (L.take k))), Fct.val Flz 1 (.slice (some aa) n ca), Fct.val Flz 2 (.int .i64 ((k : Int))), Fct.val Flz 3 (.pointer (some (aa.add (k * 32)))), Fct.val Flz 4 (.agg (encU x).toArray), Fct.val Flz 5 (aggC (putC (putL zC (L.take k)) x))] (fun w' => Below wr.drew.heap.size wr.drew w') _ 6 1 chkCr9 (by kernel_rfl) rfl (by kernel_rfl) (by kernel_rfl) (by decide) (Below.refl _ _) ?_ ?_
      · refine lt_s (lt_s (lt_s (lt_s (lt_s (lt_s (lt_0) ?_) ?_) ?_) ?_) ?_) ?_
        · intro f w1 hS hf
          generalize hA : putAll _ _ f = aA
          have r5 : aA.eval (.tmp 5) = .pointer (some ⟨b5_2, 0, none⟩) := by rw [← hA]; exact putAll_off f 5 slotsCr9 a0 (by kernel_rfl) z5
          exact flw_val rfl rfl (aggC (putL zC (L.take k))) (ex_loadR 28 (.tmp 5) rfl ⟨b5_2, 0, none⟩ r5 (fun _ => by kernel_rfl) (encC (putL zC (L.take k))) (by rw [encC_len]; kernel_rfl) ((HX_b5_2.out.keepB hS).part (encC (putL zC (L.take k))) 0 (encC_all (putL zC (L.take k))))) hS (Flz.refl _) (updF_self _ _ _)
        · intro f w1 hS hf
          generalize hA : putAll _ _ f = aA
          have r0 : aA.eval (.tmp 0) = .slice (some aa) n ca := by rw [← hA]; exact putAll_off f 0 slotsCr9 a0 (by kernel_rfl) z0
          exact flw_val rfl rfl (.slice (some aa) n ca) (ex_move (.tmp 0) rfl r0) hS (Flz.refl _) (updF_self _ _ _)
        · intro f w1 hS hf
          generalize hA : putAll _ _ f = aA
          have r7 : aA.eval (.tmp 7) = .int .i64 ((k : Int)) := by rw [← hA]; exact putAll_off f 7 slotsCr9 a0 (by kernel_rfl) z7
          exact flw_val rfl rfl (.int .i64 ((k : Int))) (ex_move (.tmp 7) rfl r7) hS (Flz.refl _) (updF_self _ _ _)
        · intro f w1 hS hf
          generalize hA : putAll _ _ f = aA
          have h32 : f 1 = .slice (some aa) n ca := hf 1 (by decide)
          have r32 : aA.eval (.tmp 32) = .slice (some aa) n ca := by rw [← hA]; exact putAll_at f 32 1 slotsCr9 a0 sbCr9 (by kernel_rfl) zsz rfl h32
          have h33 : f 2 = .int .i64 ((k : Int)) := hf 2 (by decide)
          have r33 : aA.eval (.tmp 33) = .int .i64 ((k : Int)) := by rw [← hA]; exact putAll_at f 33 2 slotsCr9 a0 sbCr9 (by kernel_rfl) zsz rfl h33
          exact flw_val rfl rfl (.pointer (some (aa.add (k * 32)))) (ex_indexS 44 23 (.tmp 32) (.tmp 33) rfl aa n ca k 32 (by kernel_rfl) (fun _ => by kernel_rfl) r32 r33 hlt) hS (Flz.refl _) (updF_self _ _ _)
        · intro f w1 hS hf
          generalize hA : putAll _ _ f = aA
          have h34 : f 3 = .pointer (some (aa.add (k * 32))) := hf 3 (by decide)
          have r34 : aA.eval (.tmp 34) = .pointer (some (aa.add (k * 32))) := by rw [← hA]; exact putAll_at f 34 3 slotsCr9 a0 sbCr9 (by kernel_rfl) zsz rfl h34
          exact flw_val rfl rfl (.agg (encU x).toArray) (ex_loadR 23 (.tmp 34) rfl (aa.add (k * 32)) r34 (fun _ => by kernel_rfl) (encU x) (by rw [encU_len]; kernel_rfl) (HEL.out w1 (HB.out.trans (hS.mono HB.out.size)))) hS (Flz.refl _) (updF_self _ _ _)
        · intro f w1 hS hf
          generalize hA : putAll _ _ f = aA
          have h31 : f 0 = aggC (putL zC (L.take k)) := hf 0 (by decide)
          have r31 : aA.eval (.tmp 31) = aggC (putL zC (L.take k)) := by rw [← hA]; exact putAll_at f 31 0 slotsCr9 a0 sbCr9 (by kernel_rfl) zsz rfl h31
          have h35 : f 4 = .agg (encU x).toArray := hf 4 (by decide)
          have r35 : aA.eval (.tmp 35) = .agg (encU x).toArray := by rw [← hA]; exact putAll_at f 35 4 slotsCr9 a0 sbCr9 (by kernel_rfl) zsz rfl h35
          exact flw_call rfl rfl 11 #[(.tmp 31), (.tmp 35)] _ rfl #[aggC (putL zC (L.take k)), .agg (encU x).toArray] (by simp only [List.map_toArray, List.map_cons, List.map_nil, r31, r35]) (fun w => by kernel_rfl) (fun v _ => v = aggC (putC (putL zC (L.take k)) x)) (put_any (putL zC (L.take k)) x w1 (HL.out.keep (HB.out.trans (hS.mono HB.out.size)) HSZ.out)) (fun v w' hr hb => ⟨hS.trans (hb.mono hS.size), Flz.of hb, (updF_self _ _ _).trans hr⟩)
      intro f u9 hS hf hap
      have h0 : f 0 = aggC (putL zC (L.take k)) := hf 0 (by decide)
      have h1 : f 1 = .slice (some aa) n ca := hf 1 (by decide)
      have h2 : f 2 = .int .i64 ((k : Int)) := hf 2 (by decide)
      have h3 : f 3 = .pointer (some (aa.add (k * 32))) := hf 3 (by decide)
      have h4 : f 4 = .agg (encU x).toArray := hf 4 (by decide)
      have h5 : f 5 = aggC (putC (putL zC (L.take k)) x) := hf 5 (by decide)
      clear hf hap
      clear zsz z5 z0 z7
      subst ha0
      simp only [slotsCr9, putAll, h0, h1, h2, h3, h4, h5, Act.put, List.setIfInBounds_toArray, List.set_cons_zero, List.set_cons_succ]
      clear h0 h1 h2 h3 h4 h5
      have hBS := HB.out.trans (hS.mono HB.out.size)
      replace HX_b5_2 := Lib.hid (HX_b5_2.out.keepB hS)
      replace HX_b5_3 := Lib.hid (HX_b5_3.out.keepB hS)
      clear hS
      refine tl_store rfl (by kernel_rfl) 28 (.tmp 5) (.tmp 36) rfl b5_2 (encC (putC (putL zC (L.take k)) x)) _ rfl rfl _ HX_b5_2.out (by rw [encC_len]; kernel_rfl) (by simp only [encC_len]) (encC_ones _) ?_
      intro w9 hp hbl hot
      replace HX_b5_3 : Hid (Has w9 b5_3 28 (encC (putL zC (rotS L r k)))) := Lib.hid ((hot _ (Ne.symm HNE_b5_2_b5_3.out)).trans HX_b5_3.out)
      replace HX_b5_2 : Hid (Has w9 b5_2 28 (encC (putC (putL zC (L.take k)) x))) := Lib.hid hp
      replace hBS := hBS.trans (hbl _ HGb5_2.out)
      clear hp hbl hot
      try simp only [Act.put]
      refine tl_nilN ?_
      replace HB := Lib.hid hBS
      clear hBS
      go_upto_region 10 with fail
      have HST : Hid (Below w9.heap.size w9 w9.drew) := Lib.hid (Below.refl _ _).drew
      replace HX_b5_2 := Lib.hid (HX_b5_2.out.keepB HST.out)
      replace HX_b5_3 := Lib.hid (HX_b5_3.out.keepB HST.out)
      replace HB := Lib.hid (HB.out.trans (HST.out.mono HB.out.size))
      clear HST
      refine wp_act (fun a0 ha0 => ?_)
      have zsz : a0.tmps.size = 82 := by rw [ha0]; rfl
      have z6 : a0.eval (.tmp 6) = .pointer (some ⟨b5_3, 0, none⟩) := by rw [ha0]; rfl
      have z0 : a0.eval (.tmp 0) = .slice (some aa) n ca := by rw [ha0]; rfl
      have z7 : a0.eval (.tmp 7) = .int .i64 ((k : Int)) := by rw [ha0]; rfl
      have z1 : a0.eval (.tmp 1) = .int .i64 ((t : Int)) := by rw [ha0]; rfl
      refine wp_region_flw (E := Flz) [] slotsCr10 waitCr10 [Fct.val Flz 0 (aggC (putL zC (rotS L r k))), Fct.val Flz 1 (.slice (some aa) n ca), Fct.val Flz 2 (.int .i64 ((k : Int))), Fct.val Flz 3 (.int .i64 ((t : Int))), Fct.val Flz 4 (.slice (some aa) n ca), Fct.val Flz 5 (.int .i64 ((n : Int))), Fct.val Flz 6 (.int .i64 ((r : Int))), Fct.val Flz 7 (.int .i64 (((k + r : Nat) : Int))), Fct.val Flz 8 (.slice (some aa) n ca), Fct.val Flz 9 (.int .i64 ((n : Int))), Fct.val Flz 10 (.int .i64 ((p : Int))), Fct.val Flz 11 (.pointer (some (aa.add (p * 32)))), Fct.val Flz 12 (.agg (encU y).toArray), Fct.val Flz 13 (aggC (putC (putL zC (rotS L r k)) y))] (fun w' => Below w9.drew.heap.size w9.drew w') _ 14 1 chkCr10 (by kernel_rfl) rfl (by kernel_rfl) (by kernel_rfl) (by decide) (Below.refl _ _) ?_ ?_
      · refine lt_s (lt_s (lt_s (lt_s (lt_s (lt_s (lt_s (lt_s (lt_s (lt_s (lt_s (lt_s (lt_s (lt_s (lt_0) ?_) ?_) ?_) ?_) ?_) ?_) ?_) ?_) ?_) ?_) ?_) ?_) ?_) ?_
        · intro f w1 hS hf
          generalize hA : putAll _ _ f = aA
          have r6 : aA.eval (.tmp 6) = .pointer (some ⟨b5_3, 0, none⟩) := by rw [← hA]; exact putAll_off f 6 slotsCr10 a0 (by kernel_rfl) z6
          exact flw_val rfl rfl (aggC (putL zC (rotS L r k))) (ex_loadR 28 (.tmp 6) rfl ⟨b5_3, 0, none⟩ r6 (fun _ => by kernel_rfl) (encC (putL zC (rotS L r k))) (by rw [encC_len]; kernel_rfl) ((HX_b5_3.out.keepB hS).part (encC (putL zC (rotS L r k))) 0 (encC_all (putL zC (rotS L r k))))) hS (Flz.refl _) (updF_self _ _ _)
        · intro f w1 hS hf
          generalize hA : putAll _ _ f = aA
          have r0 : aA.eval (.tmp 0) = .slice (some aa) n ca := by rw [← hA]; exact putAll_off f 0 slotsCr10 a0 (by kernel_rfl) z0
          exact flw_val rfl rfl (.slice (some aa) n ca) (ex_move (.tmp 0) rfl r0) hS (Flz.refl _) (updF_self _ _ _)
        · intro f w1 hS hf
          generalize hA : putAll _ _ f = aA
          have r7 : aA.eval (.tmp 7) = .int .i64 ((k : Int)) := by rw [← hA]; exact putAll_off f 7 slotsCr10 a0 (by kernel_rfl) z7
          exact flw_val rfl rfl (.int .i64 ((k : Int))) (ex_move (.tmp 7) rfl r7) hS (Flz.refl _) (updF_self _ _ _)
        · intro f w1 hS hf
          generalize hA : putAll _ _ f = aA
          have r1 : aA.eval (.tmp 1) = .int .i64 ((t : Int)) := by rw [← hA]; exact putAll_off f 1 slotsCr10 a0 (by kernel_rfl) z1
          exact flw_val rfl rfl (.int .i64 ((t : Int))) (ex_move (.tmp 1) rfl r1) hS (Flz.refl _) (updF_self _ _ _)
        · intro f w1 hS hf
          generalize hA : putAll _ _ f = aA
          have r0 : aA.eval (.tmp 0) = .slice (some aa) n ca := by rw [← hA]; exact putAll_off f 0 slotsCr10 a0 (by kernel_rfl) z0
          exact flw_val rfl rfl (.slice (some aa) n ca) (ex_move (.tmp 0) rfl r0) hS (Flz.refl _) (updF_self _ _ _)
        · intro f w1 hS hf
          generalize hA : putAll _ _ f = aA
          have h41 : f 4 = .slice (some aa) n ca := hf 4 (by decide)
          have r41 : aA.eval (.tmp 41) = .slice (some aa) n ca := by rw [← hA]; exact putAll_at f 41 4 slotsCr10 a0 sbCr10 (by kernel_rfl) zsz rfl h41
          exact flw_val rfl rfl (.int .i64 ((n : Int))) (ex_len 44 23 (.tmp 41) rfl (by kernel_rfl) (some aa) n ca r41) hS (Flz.refl _) (updF_self _ _ _)
        · intro f w1 hS hf
          generalize hA : putAll _ _ f = aA
          have h40 : f 3 = .int .i64 ((t : Int)) := hf 3 (by decide)
          have r40 : aA.eval (.tmp 40) = .int .i64 ((t : Int)) := by rw [← hA]; exact putAll_at f 40 3 slotsCr10 a0 sbCr10 (by kernel_rfl) zsz rfl h40
          have h42 : f 5 = .int .i64 ((n : Int)) := hf 5 (by decide)
          have r42 : aA.eval (.tmp 42) = .int .i64 ((n : Int)) := by rw [← hA]; exact putAll_at f 42 5 slotsCr10 a0 sbCr10 (by kernel_rfl) zsz rfl h42
          exact flw_val rfl rfl (.int .i64 ((r : Int))) (ex_int .rem _ _ (.tmp 40) (.tmp 42) rfl .i64 ((t : Int)) ((n : Int)) r40 r42 (.int .i64 ((r : Int))) (HRM.out)) hS (Flz.refl _) (updF_self _ _ _)
        · intro f w1 hS hf
          generalize hA : putAll _ _ f = aA
          have h39 : f 2 = .int .i64 ((k : Int)) := hf 2 (by decide)
          have r39 : aA.eval (.tmp 39) = .int .i64 ((k : Int)) := by rw [← hA]; exact putAll_at f 39 2 slotsCr10 a0 sbCr10 (by kernel_rfl) zsz rfl h39
          have h43 : f 6 = .int .i64 ((r : Int)) := hf 6 (by decide)
          have r43 : aA.eval (.tmp 43) = .int .i64 ((r : Int)) := by rw [← hA]; exact putAll_at f 43 6 slotsCr10 a0 sbCr10 (by kernel_rfl) zsz rfl h43
          exact flw_val rfl rfl (.int .i64 (((k + r : Nat) : Int))) (ex_int .add _ _ (.tmp 39) (.tmp 43) rfl .i64 ((k : Int)) ((r : Int)) r39 r43 (.int .i64 (((k + r : Nat) : Int))) (HAD.out)) hS (Flz.refl _) (updF_self _ _ _)
        · intro f w1 hS hf
          generalize hA : putAll _ _ f = aA
          have r0 : aA.eval (.tmp 0) = .slice (some aa) n ca := by rw [← hA]; exact putAll_off f 0 slotsCr10 a0 (by kernel_rfl) z0
          exact flw_val rfl rfl (.slice (some aa) n ca) (ex_move (.tmp 0) rfl r0) hS (Flz.refl _) (updF_self _ _ _)
        · intro f w1 hS hf
          generalize hA : putAll _ _ f = aA
          have h45 : f 8 = .slice (some aa) n ca := hf 8 (by decide)
          have r45 : aA.eval (.tmp 45) = .slice (some aa) n ca := by rw [← hA]; exact putAll_at f 45 8 slotsCr10 a0 sbCr10 (by kernel_rfl) zsz rfl h45
          exact flw_val rfl rfl (.int .i64 ((n : Int))) (ex_len 44 23 (.tmp 45) rfl (by kernel_rfl) (some aa) n ca r45) hS (Flz.refl _) (updF_self _ _ _)
        · intro f w1 hS hf
          generalize hA : putAll _ _ f = aA
          have h44 : f 7 = .int .i64 (((k + r : Nat) : Int)) := hf 7 (by decide)
          have r44 : aA.eval (.tmp 44) = .int .i64 (((k + r : Nat) : Int)) := by rw [← hA]; exact putAll_at f 44 7 slotsCr10 a0 sbCr10 (by kernel_rfl) zsz rfl h44
          have h46 : f 9 = .int .i64 ((n : Int)) := hf 9 (by decide)
          have r46 : aA.eval (.tmp 46) = .int .i64 ((n : Int)) := by rw [← hA]; exact putAll_at f 46 9 slotsCr10 a0 sbCr10 (by kernel_rfl) zsz rfl h46
          exact flw_val rfl rfl (.int .i64 ((p : Int))) (ex_int .rem _ _ (.tmp 44) (.tmp 46) rfl .i64 (((k + r : Nat) : Int)) ((n : Int)) r44 r46 (.int .i64 ((p : Int))) (HRN.out)) hS (Flz.refl _) (updF_self _ _ _)
        · intro f w1 hS hf
          generalize hA : putAll _ _ f = aA
          have h38 : f 1 = .slice (some aa) n ca := hf 1 (by decide)
          have r38 : aA.eval (.tmp 38) = .slice (some aa) n ca := by rw [← hA]; exact putAll_at f 38 1 slotsCr10 a0 sbCr10 (by kernel_rfl) zsz rfl h38
          have h47 : f 10 = .int .i64 ((p : Int)) := hf 10 (by decide)
          have r47 : aA.eval (.tmp 47) = .int .i64 ((p : Int)) := by rw [← hA]; exact putAll_at f 47 10 slotsCr10 a0 sbCr10 (by kernel_rfl) zsz rfl h47
          exact flw_val rfl rfl (.pointer (some (aa.add (p * 32)))) (ex_indexS 44 23 (.tmp 38) (.tmp 47) rfl aa n ca p 32 (by kernel_rfl) (fun _ => by kernel_rfl) r38 r47 hpn) hS (Flz.refl _) (updF_self _ _ _)
        · intro f w1 hS hf
          generalize hA : putAll _ _ f = aA
          have h48 : f 11 = .pointer (some (aa.add (p * 32))) := hf 11 (by decide)
          have r48 : aA.eval (.tmp 48) = .pointer (some (aa.add (p * 32))) := by rw [← hA]; exact putAll_at f 48 11 slotsCr10 a0 sbCr10 (by kernel_rfl) zsz rfl h48
          exact flw_val rfl rfl (.agg (encU y).toArray) (ex_loadR 23 (.tmp 48) rfl (aa.add (p * 32)) r48 (fun _ => by kernel_rfl) (encU y) (by rw [encU_len]; kernel_rfl) (HEP.out w1 (HB.out.trans (hS.mono HB.out.size)))) hS (Flz.refl _) (updF_self _ _ _)
        · intro f w1 hS hf
          generalize hA : putAll _ _ f = aA
          have h37 : f 0 = aggC (putL zC (rotS L r k)) := hf 0 (by decide)
          have r37 : aA.eval (.tmp 37) = aggC (putL zC (rotS L r k)) := by rw [← hA]; exact putAll_at f 37 0 slotsCr10 a0 sbCr10 (by kernel_rfl) zsz rfl h37
          have h49 : f 12 = .agg (encU y).toArray := hf 12 (by decide)
          have r49 : aA.eval (.tmp 49) = .agg (encU y).toArray := by rw [← hA]; exact putAll_at f 49 12 slotsCr10 a0 sbCr10 (by kernel_rfl) zsz rfl h49
          exact flw_call rfl rfl 11 #[(.tmp 37), (.tmp 49)] _ rfl #[aggC (putL zC (rotS L r k)), .agg (encU y).toArray] (by simp only [List.map_toArray, List.map_cons, List.map_nil, r37, r49]) (fun w => by kernel_rfl) (fun v _ => v = aggC (putC (putL zC (rotS L r k)) y)) (put_any (putL zC (rotS L r k)) y w1 (HL.out.keep (HB.out.trans (hS.mono HB.out.size)) HSZ.out)) (fun v w' hr hb => ⟨hS.trans (hb.mono hS.size), Flz.of hb, (updF_self _ _ _).trans hr⟩)
      intro f u10 hS hf hap
      have h0 : f 0 = aggC (putL zC (rotS L r k)) := hf 0 (by decide)
      have h1 : f 1 = .slice (some aa) n ca := hf 1 (by decide)
      have h2 : f 2 = .int .i64 ((k : Int)) := hf 2 (by decide)
      have h3 : f 3 = .int .i64 ((t : Int)) := hf 3 (by decide)
      have h4 : f 4 = .slice (some aa) n ca := hf 4 (by decide)
      have h5 : f 5 = .int .i64 ((n : Int)) := hf 5 (by decide)
      have h6 : f 6 = .int .i64 ((r : Int)) := hf 6 (by decide)
      have h7 : f 7 = .int .i64 (((k + r : Nat) : Int)) := hf 7 (by decide)
      have h8 : f 8 = .slice (some aa) n ca := hf 8 (by decide)
      have h9 : f 9 = .int .i64 ((n : Int)) := hf 9 (by decide)
      have h10 : f 10 = .int .i64 ((p : Int)) := hf 10 (by decide)
      have h11 : f 11 = .pointer (some (aa.add (p * 32))) := hf 11 (by decide)
      have h12 : f 12 = .agg (encU y).toArray := hf 12 (by decide)
      have h13 : f 13 = aggC (putC (putL zC (rotS L r k)) y) := hf 13 (by decide)
      clear hf hap
      clear zsz z6 z0 z7 z1
      subst ha0
      simp only [slotsCr10, putAll, h0, h1, h2, h3, h4, h5, h6, h7, h8, h9, h10, h11, h12, h13, Act.put, List.setIfInBounds_toArray, List.set_cons_zero, List.set_cons_succ]
      clear h0 h1 h2 h3 h4 h5 h6 h7 h8 h9 h10 h11 h12 h13
      have hBS := HB.out.trans (hS.mono HB.out.size)
      replace HX_b5_2 := Lib.hid (HX_b5_2.out.keepB hS)
      replace HX_b5_3 := Lib.hid (HX_b5_3.out.keepB hS)
      clear hS
      refine tl_store rfl (by kernel_rfl) 28 (.tmp 6) (.tmp 50) rfl b5_3 (encC (putC (putL zC (rotS L r k)) y)) _ rfl rfl _ HX_b5_3.out (by rw [encC_len]; kernel_rfl) (by simp only [encC_len]) (encC_ones _) ?_
      intro w10 hp hbl hot
      replace HX_b5_2 : Hid (Has w10 b5_2 28 (encC (putC (putL zC (L.take k)) x))) := Lib.hid ((hot _ (HNE_b5_2_b5_3.out)).trans HX_b5_2.out)
      replace HX_b5_3 : Hid (Has w10 b5_3 28 (encC (putC (putL zC (rotS L r k)) y))) := Lib.hid hp
      replace hBS := hBS.trans (hbl _ HGb5_3.out)
      clear hp hbl hot
      try simp only [Act.put]
      refine tl_nilN ?_
      replace HB := Lib.hid hBS
      clear hBS
      go_wp2_with fail
      go_roundw
      case rel => exact ⟨k + 1, by omega, by go_num, (by rw [HTK.out, putL_snoc]; exact HX_b5_2.out), (by rw [HRT.out, putL_snoc]; exact HX_b5_3.out), HB.out⟩
      case measure => simp [intOf]; omega
    · obtain rfl : n = k := by omega
      have k3 : ¬ (n : Int) < (n : Int) := by omega
      have HTA : Hid (L.take n = L) := Lib.hid (List.take_of_length_le (Nat.le_of_eq HN.out))
      have HRA : Hid (putL zC (rotS L r n) = putL zC L) := Lib.hid (by rw [← HN.out]; exact putL_perm (rotS_perm (by rw [HN.out]; exact hrn)) zC)
      rw [HTA.out] at HX_b5_2
      rw [HRA.out] at HX_b5_3
      have HCT : Hid (((putL zC L).1 != (n : Int)) = false) := Lib.hid (by
        rw [putL_count L zC okC_zero, HN.out]
        rw [show IntKind.i64.wrap (zC.1 + (n : Int)) = (n : Int) by rw [show zC.1 = 0 from rfl, IntKind.wrap_i64]; omega]
        simp)
      clear HTA HRA
      go_upto_region 11 with fail
      refine wp_act (fun a0 ha0 => ?_)
      have zsz : a0.tmps.size = 82 := by rw [ha0]; rfl
      have z5 : a0.eval (.tmp 5) = .pointer (some ⟨b5_2, 0, none⟩) := by rw [ha0]; rfl
      have z6 : a0.eval (.tmp 6) = .pointer (some ⟨b5_3, 0, none⟩) := by rw [ha0]; rfl
      have z0 : a0.eval (.tmp 0) = .slice qa n ca := by rw [ha0]; rfl
      refine wp_region_flwo (E := Flz) [] slotsCr11 waitCr11 [Fct.val Flz 0 (aggC (putL zC L)), Fct.val Flz 1 (aggC (putL zC L)), Fct.val Flz 2 (.bool false), Fct.val Flz 3 (.bool false), Fct.val Flz 4 (.pointer (some ⟨b5_2, 0, none⟩)), Fct.val Flz 5 (.int .i64 ((putL zC L).1)), Fct.val Flz 6 (.slice qa n ca), Fct.val Flz 7 (.int .i64 ((n : Int))), Fct.val Flz 8 (.bool false), Fct.val Flz 9 (.bool false), Fct.val Flz 10 (.bool false), Fct.val Flz 11 (aggC (putL zC L)), Fct.val Flz 12 (aggC (putL zC L)), Fct.val Flz 13 (aggC (minusC (putL zC L) (putL zC L))), Fct.val Flz 14 (.bool true), Fct.val Flz 15 (.bool false), Fct.val Flz 16 (.bool false)] (fun w' => Below wr.heap.size wr w') _ 17 0 chkCr11 (by kernel_rfl) rfl (by kernel_rfl) (by decide) (Below.refl _ _) ?_ ?_
      · refine lt_s (lt_s (lt_s (lt_s (lt_s (lt_s (lt_s (lt_s (lt_s (lt_s (lt_s (lt_s (lt_s (lt_s (lt_s (lt_s (lt_s (lt_0) ?_) ?_) ?_) ?_) ?_) ?_) ?_) ?_) ?_) ?_) ?_) ?_) ?_) ?_) ?_) ?_) ?_
        · intro f w1 hS hf
          generalize hA : putAll _ _ f = aA
          have r5 : aA.eval (.tmp 5) = .pointer (some ⟨b5_2, 0, none⟩) := by rw [← hA]; exact putAll_off f 5 slotsCr11 a0 (by kernel_rfl) z5
          exact flw_val rfl rfl (aggC (putL zC L)) (ex_loadR 28 (.tmp 5) rfl ⟨b5_2, 0, none⟩ r5 (fun _ => by kernel_rfl) (encC (putL zC L)) (by rw [encC_len]; kernel_rfl) ((HX_b5_2.out.keepB hS).part (encC (putL zC L)) 0 (encC_all (putL zC L)))) hS (Flz.refl _) (updF_self _ _ _)
        · intro f w1 hS hf
          generalize hA : putAll _ _ f = aA
          have r6 : aA.eval (.tmp 6) = .pointer (some ⟨b5_3, 0, none⟩) := by rw [← hA]; exact putAll_off f 6 slotsCr11 a0 (by kernel_rfl) z6
          exact flw_val rfl rfl (aggC (putL zC L)) (ex_loadR 28 (.tmp 6) rfl ⟨b5_3, 0, none⟩ r6 (fun _ => by kernel_rfl) (encC (putL zC L)) (by rw [encC_len]; kernel_rfl) ((HX_b5_3.out.keepB hS).part (encC (putL zC L)) 0 (encC_all (putL zC L)))) hS (Flz.refl _) (updF_self _ _ _)
        · intro f w1 hS hf
          generalize hA : putAll _ _ f = aA
          have h51 : f 0 = aggC (putL zC L) := hf 0 (by decide)
          have r51 : aA.eval (.tmp 51) = aggC (putL zC L) := by rw [← hA]; exact putAll_at f 51 0 slotsCr11 a0 sbCr11 (by kernel_rfl) zsz rfl h51
          have h52 : f 1 = aggC (putL zC L) := hf 1 (by decide)
          have r52 : aA.eval (.tmp 52) = aggC (putL zC L) := by rw [← hA]; exact putAll_at f 52 1 slotsCr11 a0 sbCr11 (by kernel_rfl) zsz rfl h52
          exact flw_val rfl rfl (.bool false) (Eq.trans (neqC (.tmp 51) (.tmp 52) _ rfl (putL zC L) (putL zC L) r51 r52) (by rw [(show (!decide (putL zC L = putL zC L)) = false by simp)])) hS (Flz.refl _) (updF_self _ _ _)
        · intro f w1 hS hf
          generalize hA : putAll _ _ f = aA
          have h53 : f 2 = .bool false := hf 2 (by decide)
          have r53 : aA.eval (.tmp 53) = .bool false := by rw [← hA]; exact putAll_at f 53 2 slotsCr11 a0 sbCr11 (by kernel_rfl) zsz rfl h53
          exact flw_val rfl rfl (.bool false) (ex_move (.tmp 53) rfl r53) hS (Flz.refl _) (updF_self _ _ _)
        · intro f w1 hS hf
          generalize hA : putAll _ _ f = aA
          have g54 : f 3 = .bool false := hf 3 (by decide)
          have t54 : aA.tmps[54]? = some (.bool false) := by rw [← hA]; exact putAll_g f 54 3 slotsCr11 a0 sbCr11 (by kernel_rfl) zsz rfl g54
          have r5 : aA.eval (.tmp 5) = .pointer (some ⟨b5_2, 0, none⟩) := by rw [← hA]; exact putAll_off f 5 slotsCr11 a0 (by kernel_rfl) z5
          exact flw_val rfl ((wanted_of rfl 54 rfl t54).trans rfl) (.pointer (some ⟨b5_2, 0, none⟩)) (fld0C (.tmp 5) rfl b5_2 r5) hS (Flz.refl _) (updF_self _ _ _)
        · intro f w1 hS hf
          generalize hA : putAll _ _ f = aA
          have g54 : f 3 = .bool false := hf 3 (by decide)
          have t54 : aA.tmps[54]? = some (.bool false) := by rw [← hA]; exact putAll_g f 54 3 slotsCr11 a0 sbCr11 (by kernel_rfl) zsz rfl g54
          have h55 : f 4 = .pointer (some ⟨b5_2, 0, none⟩) := hf 4 (by decide)
          have r55 : aA.eval (.tmp 55) = .pointer (some ⟨b5_2, 0, none⟩) := by rw [← hA]; exact putAll_at f 55 4 slotsCr11 a0 sbCr11 (by kernel_rfl) zsz rfl h55
          exact flw_val rfl ((wanted_of rfl 54 rfl t54).trans rfl) (.int .i64 ((putL zC L).1)) (ex_load1 2 (.tmp 55) rfl ⟨b5_2, 0, none⟩ r55 (fun _ => by kernel_rfl) ((HX_b5_2.out.keepB hS).cellv (encC_0 (putL zC L)))) hS (Flz.refl _) (updF_self _ _ _)
        · intro f w1 hS hf
          generalize hA : putAll _ _ f = aA
          have g54 : f 3 = .bool false := hf 3 (by decide)
          have t54 : aA.tmps[54]? = some (.bool false) := by rw [← hA]; exact putAll_g f 54 3 slotsCr11 a0 sbCr11 (by kernel_rfl) zsz rfl g54
          have r0 : aA.eval (.tmp 0) = .slice qa n ca := by rw [← hA]; exact putAll_off f 0 slotsCr11 a0 (by kernel_rfl) z0
          exact flw_val rfl ((wanted_of rfl 54 rfl t54).trans rfl) (.slice qa n ca) (ex_move (.tmp 0) rfl r0) hS (Flz.refl _) (updF_self _ _ _)
        · intro f w1 hS hf
          generalize hA : putAll _ _ f = aA
          have g54 : f 3 = .bool false := hf 3 (by decide)
          have t54 : aA.tmps[54]? = some (.bool false) := by rw [← hA]; exact putAll_g f 54 3 slotsCr11 a0 sbCr11 (by kernel_rfl) zsz rfl g54
          have h57 : f 6 = .slice qa n ca := hf 6 (by decide)
          have r57 : aA.eval (.tmp 57) = .slice qa n ca := by rw [← hA]; exact putAll_at f 57 6 slotsCr11 a0 sbCr11 (by kernel_rfl) zsz rfl h57
          exact flw_val rfl ((wanted_of rfl 54 rfl t54).trans rfl) (.int .i64 ((n : Int))) (ex_len 44 23 (.tmp 57) rfl (by kernel_rfl) qa n ca r57) hS (Flz.refl _) (updF_self _ _ _)
        · intro f w1 hS hf
          generalize hA : putAll _ _ f = aA
          have g54 : f 3 = .bool false := hf 3 (by decide)
          have t54 : aA.tmps[54]? = some (.bool false) := by rw [← hA]; exact putAll_g f 54 3 slotsCr11 a0 sbCr11 (by kernel_rfl) zsz rfl g54
          have h56 : f 5 = .int .i64 ((putL zC L).1) := hf 5 (by decide)
          have r56 : aA.eval (.tmp 56) = .int .i64 ((putL zC L).1) := by rw [← hA]; exact putAll_at f 56 5 slotsCr11 a0 sbCr11 (by kernel_rfl) zsz rfl h56
          have h58 : f 7 = .int .i64 ((n : Int)) := hf 7 (by decide)
          have r58 : aA.eval (.tmp 58) = .int .i64 ((n : Int)) := by rw [← hA]; exact putAll_at f 58 7 slotsCr11 a0 sbCr11 (by kernel_rfl) zsz rfl h58
          exact flw_val rfl ((wanted_of rfl 54 rfl t54).trans rfl) (.bool false) (Eq.trans (ex_int .neq _ _ (.tmp 56) (.tmp 58) rfl .i64 ((putL zC L).1) ((n : Int)) r56 r58 (.bool (((putL zC L).1) != ((n : Int)))) (fun _ => rfl)) (by rw [HCT.out])) hS (Flz.refl _) (updF_self _ _ _)
        · intro f w1 hS hf
          generalize hA : putAll _ _ f = aA
          have h54 : f 3 = .bool false := hf 3 (by decide)
          have r54 : aA.eval (.tmp 54) = .bool false := by rw [← hA]; exact putAll_at f 54 3 slotsCr11 a0 sbCr11 (by kernel_rfl) zsz rfl h54
          have h59 : f 8 = .bool false := hf 8 (by decide)
          have r59 : aA.eval (.tmp 59) = .bool false := by rw [← hA]; exact putAll_at f 59 8 slotsCr11 a0 sbCr11 (by kernel_rfl) zsz rfl h59
          exact flw_val rfl rfl (.bool false) (ex_pick (.tmp 54) _ (.tmp 59) rfl false r54 ((if_neg (by decide)).trans r59)) hS (Flz.refl _) (updF_self _ _ _)
        · intro f w1 hS hf
          generalize hA : putAll _ _ f = aA
          have h60 : f 9 = .bool false := hf 9 (by decide)
          have r60 : aA.eval (.tmp 60) = .bool false := by rw [← hA]; exact putAll_at f 60 9 slotsCr11 a0 sbCr11 (by kernel_rfl) zsz rfl h60
          exact flw_val rfl rfl (.bool false) (ex_move (.tmp 60) rfl r60) hS (Flz.refl _) (updF_self _ _ _)
        · intro f w1 hS hf
          generalize hA : putAll _ _ f = aA
          have g61 : f 10 = .bool false := hf 10 (by decide)
          have t61 : aA.tmps[61]? = some (.bool false) := by rw [← hA]; exact putAll_g f 61 10 slotsCr11 a0 sbCr11 (by kernel_rfl) zsz rfl g61
          have r5 : aA.eval (.tmp 5) = .pointer (some ⟨b5_2, 0, none⟩) := by rw [← hA]; exact putAll_off f 5 slotsCr11 a0 (by kernel_rfl) z5
          exact flw_val rfl ((wanted_of rfl 61 rfl t61).trans rfl) (aggC (putL zC L)) (ex_loadR 28 (.tmp 5) rfl ⟨b5_2, 0, none⟩ r5 (fun _ => by kernel_rfl) (encC (putL zC L)) (by rw [encC_len]; kernel_rfl) ((HX_b5_2.out.keepB hS).part (encC (putL zC L)) 0 (encC_all (putL zC L)))) hS (Flz.refl _) (updF_self _ _ _)
        · intro f w1 hS hf
          generalize hA : putAll _ _ f = aA
          have g61 : f 10 = .bool false := hf 10 (by decide)
          have t61 : aA.tmps[61]? = some (.bool false) := by rw [← hA]; exact putAll_g f 61 10 slotsCr11 a0 sbCr11 (by kernel_rfl) zsz rfl g61
          have r6 : aA.eval (.tmp 6) = .pointer (some ⟨b5_3, 0, none⟩) := by rw [← hA]; exact putAll_off f 6 slotsCr11 a0 (by kernel_rfl) z6
          exact flw_val rfl ((wanted_of rfl 61 rfl t61).trans rfl) (aggC (putL zC L)) (ex_loadR 28 (.tmp 6) rfl ⟨b5_3, 0, none⟩ r6 (fun _ => by kernel_rfl) (encC (putL zC L)) (by rw [encC_len]; kernel_rfl) ((HX_b5_3.out.keepB hS).part (encC (putL zC L)) 0 (encC_all (putL zC L)))) hS (Flz.refl _) (updF_self _ _ _)
        · intro f w1 hS hf
          generalize hA : putAll _ _ f = aA
          have g61 : f 10 = .bool false := hf 10 (by decide)
          have t61 : aA.tmps[61]? = some (.bool false) := by rw [← hA]; exact putAll_g f 61 10 slotsCr11 a0 sbCr11 (by kernel_rfl) zsz rfl g61
          have h62 : f 11 = aggC (putL zC L) := hf 11 (by decide)
          have r62 : aA.eval (.tmp 62) = aggC (putL zC L) := by rw [← hA]; exact putAll_at f 62 11 slotsCr11 a0 sbCr11 (by kernel_rfl) zsz rfl h62
          have h63 : f 12 = aggC (putL zC L) := hf 12 (by decide)
          have r63 : aA.eval (.tmp 63) = aggC (putL zC L) := by rw [← hA]; exact putAll_at f 63 12 slotsCr11 a0 sbCr11 (by kernel_rfl) zsz rfl h63
          exact flw_call rfl ((wanted_of rfl 61 rfl t61).trans rfl) 13 #[(.tmp 62), (.tmp 63)] _ rfl #[aggC (putL zC L), aggC (putL zC L)] (by simp only [List.map_toArray, List.map_cons, List.map_nil, r62, r63]) (fun w => by kernel_rfl) (fun v _ => v = aggC (minusC (putL zC L) (putL zC L))) (minus_any (putL zC L) (putL zC L) w1) (fun v w' hr hb => ⟨hS.trans (hb.mono hS.size), Flz.of hb, (updF_self _ _ _).trans hr⟩)
        · intro f w1 hS hf
          generalize hA : putAll _ _ f = aA
          have g61 : f 10 = .bool false := hf 10 (by decide)
          have t61 : aA.tmps[61]? = some (.bool false) := by rw [← hA]; exact putAll_g f 61 10 slotsCr11 a0 sbCr11 (by kernel_rfl) zsz rfl g61
          have h64 : f 13 = aggC (minusC (putL zC L) (putL zC L)) := hf 13 (by decide)
          have r64 : aA.eval (.tmp 64) = aggC (minusC (putL zC L) (putL zC L)) := by rw [← hA]; exact putAll_at f 64 13 slotsCr11 a0 sbCr11 (by kernel_rfl) zsz rfl h64
          exact flw_call rfl ((wanted_of rfl 61 rfl t61).trans rfl) 16 #[(.tmp 64)] _ rfl #[aggC (minusC (putL zC L) (putL zC L))] (by simp only [List.map_toArray, List.map_cons, List.map_nil, r64]) (fun w => by kernel_rfl) (fun v _ => v = .bool true) (as_any (zeroC_any (minusC (putL zC L) (putL zC L)) w1) (congrArg Value.bool (decide_eq_true minusC_self))) (fun v w' hr hb => ⟨hS.trans (hb.mono hS.size), Flz.of hb, (updF_self _ _ _).trans hr⟩)
        · intro f w1 hS hf
          generalize hA : putAll _ _ f = aA
          have g61 : f 10 = .bool false := hf 10 (by decide)
          have t61 : aA.tmps[61]? = some (.bool false) := by rw [← hA]; exact putAll_g f 61 10 slotsCr11 a0 sbCr11 (by kernel_rfl) zsz rfl g61
          have h65 : f 14 = .bool true := hf 14 (by decide)
          have r65 : aA.eval (.tmp 65) = .bool true := by rw [← hA]; exact putAll_at f 65 14 slotsCr11 a0 sbCr11 (by kernel_rfl) zsz rfl h65
          exact flw_val rfl ((wanted_of rfl 61 rfl t61).trans rfl) (.bool false) (ex_not _ (.tmp 65) rfl r65) hS (Flz.refl _) (updF_self _ _ _)
        · intro f w1 hS hf
          generalize hA : putAll _ _ f = aA
          have h61 : f 10 = .bool false := hf 10 (by decide)
          have r61 : aA.eval (.tmp 61) = .bool false := by rw [← hA]; exact putAll_at f 61 10 slotsCr11 a0 sbCr11 (by kernel_rfl) zsz rfl h61
          have h66 : f 15 = .bool false := hf 15 (by decide)
          have r66 : aA.eval (.tmp 66) = .bool false := by rw [← hA]; exact putAll_at f 66 15 slotsCr11 a0 sbCr11 (by kernel_rfl) zsz rfl h66
          exact flw_val rfl rfl (.bool false) (ex_pick (.tmp 61) _ (.tmp 66) rfl false r61 ((if_neg (by decide)).trans r66)) hS (Flz.refl _) (updF_self _ _ _)
      intro f w11 hS hf hap
      have h0 : f 0 = aggC (putL zC L) := hf 0 (by decide)
      have h1 : f 1 = aggC (putL zC L) := hf 1 (by decide)
      have h2 : f 2 = .bool false := hf 2 (by decide)
      have h3 : f 3 = .bool false := hf 3 (by decide)
      have h4 : f 4 = .pointer (some ⟨b5_2, 0, none⟩) := hf 4 (by decide)
      have h5 : f 5 = .int .i64 ((putL zC L).1) := hf 5 (by decide)
      have h6 : f 6 = .slice qa n ca := hf 6 (by decide)
      have h7 : f 7 = .int .i64 ((n : Int)) := hf 7 (by decide)
      have h8 : f 8 = .bool false := hf 8 (by decide)
      have h9 : f 9 = .bool false := hf 9 (by decide)
      have h10 : f 10 = .bool false := hf 10 (by decide)
      have h11 : f 11 = aggC (putL zC L) := hf 11 (by decide)
      have h12 : f 12 = aggC (putL zC L) := hf 12 (by decide)
      have h13 : f 13 = aggC (minusC (putL zC L) (putL zC L)) := hf 13 (by decide)
      have h14 : f 14 = .bool true := hf 14 (by decide)
      have h15 : f 15 = .bool false := hf 15 (by decide)
      have h16 : f 16 = .bool false := hf 16 (by decide)
      clear hf hap
      clear zsz z5 z6 z0
      subst ha0
      simp only [slotsCr11, putAll, h0, h1, h2, h3, h4, h5, h6, h7, h8, h9, h10, h11, h12, h13, h14, h15, h16, Act.put, List.setIfInBounds_toArray, List.set_cons_zero, List.set_cons_succ]
      clear h0 h1 h2 h3 h4 h5 h6 h7 h8 h9 h10 h11 h12 h13 h14 h15 h16
      refine tl_nil ?_
      replace HX_b5_2 := Lib.hid (HX_b5_2.out.keepB hS)
      replace HX_b5_3 := Lib.hid (HX_b5_3.out.keepB hS)
      replace HB := Lib.hid (HB.out.trans (hS.mono HB.out.size))
      clear hS
      go_wp2_with fail
      go_loopw [8] (fun v wr => ∃ k : Nat, k ≤ n ∧ v = .int .i64 k ∧ Has wr b5_2 28 (encC (takeL (putL zC L) (L.take k))) ∧ Below w.heap.size w wr) (fun v _ => n - (intOf v).toNat)
      case atStart => exact ⟨0, by omega, rfl, HX_b5_2.out, HB.out⟩
      case round =>
        clear HX_b5_2 HX_b5_3 HB
        rename_i wr
        obtain ⟨k, hk, rfl, hx1, hB⟩ := hrel
        have HX_b5_2 := Lib.hid hx1
        have HB := Lib.hid hB
        clear hx1 hB
        by_cases hlt : k < n
        · have hkL : k < L.length := by rw [HN.out]; exact hlt
          obtain ⟨aa, rfl, _, hc⟩ := Ss.el HSA.out hkL
          have HTK : Hid (L.take (k + 1) = L.take k ++ [L[k]]) := Lib.hid (List.take_succ_eq_append_getElem hkL)
          have HEL : Hid (∀ w', Below w.heap.size w w' → ∀ j u, (encU L[k])[j]? = some u → w'.cell? ((aa.add (k * 32)).add j) = some u) := Lib.hid hc
          clear hc
          generalize L[k] = x at *
          have k3 : (k : Int) < (n : Int) := by omega
          go_upto_region 16 with fail
          have HST : Hid (Below wr.heap.size wr wr.drew) := Lib.hid (Below.refl _ _).drew
          replace HX_b5_2 := Lib.hid (HX_b5_2.out.keepB HST.out)
          replace HB := Lib.hid (HB.out.trans (HST.out.mono HB.out.size))
          clear HST
          refine wp_act (fun a0 ha0 => ?_)
          have zsz : a0.tmps.size = 82 := by rw [ha0]; rfl
          have z5 : a0.eval (.tmp 5) = .pointer (some ⟨b5_2, 0, none⟩) := by rw [ha0]; rfl
          have z0 : a0.eval (.tmp 0) = .slice (some aa) n ca := by rw [ha0]; rfl
          have z8 : a0.eval (.tmp 8) = .int .i64 ((k : Int)) := by rw [ha0]; rfl
          refine wp_region_flw (E := Flz) [] slotsCr16 waitCr16 [Fct.val Flz 0 (aggC (takeL (putL zC L) (L.take k))), Fct.val Flz 1 (.slice (some aa) n ca), Fct.val Flz 2 (.int .i64 ((k : Int))), Fct.val Flz 3 (.pointer (some (aa.add (k * 32)))), Fct.val Flz 4 (.agg (encU x).toArray), Fct.val Flz 5 (aggC (takeC (takeL (putL zC L) (L.take k)) x))] (fun w' => Below wr.drew.heap.size wr.drew w') _ 6 1 chkCr16 (by kernel_rfl) rfl (by kernel_rfl) (by kernel_rfl) (by decide) (Below.refl _ _) ?_ ?_
          · refine lt_s (lt_s (lt_s (lt_s (lt_s (lt_s (lt_0) ?_) ?_) ?_) ?_) ?_) ?_
            · intro f w1 hS hf
              generalize hA : putAll _ _ f = aA
              have r5 : aA.eval (.tmp 5) = .pointer (some ⟨b5_2, 0, none⟩) := by rw [← hA]; exact putAll_off f 5 slotsCr16 a0 (by kernel_rfl) z5
              exact flw_val rfl rfl (aggC (takeL (putL zC L) (L.take k))) (ex_loadR 28 (.tmp 5) rfl ⟨b5_2, 0, none⟩ r5 (fun _ => by kernel_rfl) (encC (takeL (putL zC L) (L.take k))) (by rw [encC_len]; kernel_rfl) ((HX_b5_2.out.keepB hS).part (encC (takeL (putL zC L) (L.take k))) 0 (encC_all (takeL (putL zC L) (L.take k))))) hS (Flz.refl _) (updF_self _ _ _)
            · intro f w1 hS hf
              generalize hA : putAll _ _ f = aA
              have r0 : aA.eval (.tmp 0) = .slice (some aa) n ca := by rw [← hA]; exact putAll_off f 0 slotsCr16 a0 (by kernel_rfl) z0
              exact flw_val rfl rfl (.slice (some aa) n ca) (ex_move (.tmp 0) rfl r0) hS (Flz.refl _) (updF_self _ _ _)
            · intro f w1 hS hf
              generalize hA : putAll _ _ f = aA
              have r8 : aA.eval (.tmp 8) = .int .i64 ((k : Int)) := by rw [← hA]; exact putAll_off f 8 slotsCr16 a0 (by kernel_rfl) z8
              exact flw_val rfl rfl (.int .i64 ((k : Int))) (ex_move (.tmp 8) rfl r8) hS (Flz.refl _) (updF_self _ _ _)
            · intro f w1 hS hf
              generalize hA : putAll _ _ f = aA
              have h75 : f 1 = .slice (some aa) n ca := hf 1 (by decide)
              have r75 : aA.eval (.tmp 75) = .slice (some aa) n ca := by rw [← hA]; exact putAll_at f 75 1 slotsCr16 a0 sbCr16 (by kernel_rfl) zsz rfl h75
              have h76 : f 2 = .int .i64 ((k : Int)) := hf 2 (by decide)
              have r76 : aA.eval (.tmp 76) = .int .i64 ((k : Int)) := by rw [← hA]; exact putAll_at f 76 2 slotsCr16 a0 sbCr16 (by kernel_rfl) zsz rfl h76
              exact flw_val rfl rfl (.pointer (some (aa.add (k * 32)))) (ex_indexS 44 23 (.tmp 75) (.tmp 76) rfl aa n ca k 32 (by kernel_rfl) (fun _ => by kernel_rfl) r75 r76 hlt) hS (Flz.refl _) (updF_self _ _ _)
            · intro f w1 hS hf
              generalize hA : putAll _ _ f = aA
              have h77 : f 3 = .pointer (some (aa.add (k * 32))) := hf 3 (by decide)
              have r77 : aA.eval (.tmp 77) = .pointer (some (aa.add (k * 32))) := by rw [← hA]; exact putAll_at f 77 3 slotsCr16 a0 sbCr16 (by kernel_rfl) zsz rfl h77
              exact flw_val rfl rfl (.agg (encU x).toArray) (ex_loadR 23 (.tmp 77) rfl (aa.add (k * 32)) r77 (fun _ => by kernel_rfl) (encU x) (by rw [encU_len]; kernel_rfl) (HEL.out w1 (HB.out.trans (hS.mono HB.out.size)))) hS (Flz.refl _) (updF_self _ _ _)
            · intro f w1 hS hf
              generalize hA : putAll _ _ f = aA
              have h74 : f 0 = aggC (takeL (putL zC L) (L.take k)) := hf 0 (by decide)
              have r74 : aA.eval (.tmp 74) = aggC (takeL (putL zC L) (L.take k)) := by rw [← hA]; exact putAll_at f 74 0 slotsCr16 a0 sbCr16 (by kernel_rfl) zsz rfl h74
              have h78 : f 4 = .agg (encU x).toArray := hf 4 (by decide)
              have r78 : aA.eval (.tmp 78) = .agg (encU x).toArray := by rw [← hA]; exact putAll_at f 78 4 slotsCr16 a0 sbCr16 (by kernel_rfl) zsz rfl h78
              exact flw_call rfl rfl 14 #[(.tmp 74), (.tmp 78)] _ rfl #[aggC (takeL (putL zC L) (L.take k)), .agg (encU x).toArray] (by simp only [List.map_toArray, List.map_cons, List.map_nil, r74, r78]) (fun w => by kernel_rfl) (fun v _ => v = aggC (takeC (takeL (putL zC L) (L.take k)) x)) (take_any (takeL (putL zC L) (L.take k)) x w1 (HL.out.keep (HB.out.trans (hS.mono HB.out.size)) HSZ.out)) (fun v w' hr hb => ⟨hS.trans (hb.mono hS.size), Flz.of hb, (updF_self _ _ _).trans hr⟩)
          intro f u16 hS hf hap
          have h0 : f 0 = aggC (takeL (putL zC L) (L.take k)) := hf 0 (by decide)
          have h1 : f 1 = .slice (some aa) n ca := hf 1 (by decide)
          have h2 : f 2 = .int .i64 ((k : Int)) := hf 2 (by decide)
          have h3 : f 3 = .pointer (some (aa.add (k * 32))) := hf 3 (by decide)
          have h4 : f 4 = .agg (encU x).toArray := hf 4 (by decide)
          have h5 : f 5 = aggC (takeC (takeL (putL zC L) (L.take k)) x) := hf 5 (by decide)
          clear hf hap
          clear zsz z5 z0 z8
          subst ha0
          simp only [slotsCr16, putAll, h0, h1, h2, h3, h4, h5, Act.put, List.setIfInBounds_toArray, List.set_cons_zero, List.set_cons_succ]
          clear h0 h1 h2 h3 h4 h5
          have hBS := HB.out.trans (hS.mono HB.out.size)
          replace HX_b5_2 := Lib.hid (HX_b5_2.out.keepB hS)
          clear hS
          refine tl_store rfl (by kernel_rfl) 28 (.tmp 5) (.tmp 79) rfl b5_2 (encC (takeC (takeL (putL zC L) (L.take k)) x)) _ rfl rfl _ HX_b5_2.out (by rw [encC_len]; kernel_rfl) (by simp only [encC_len]) (encC_ones _) ?_
          intro w16 hp hbl hot
          replace HX_b5_2 : Hid (Has w16 b5_2 28 (encC (takeC (takeL (putL zC L) (L.take k)) x))) := Lib.hid hp
          replace hBS := hBS.trans (hbl _ HGb5_2.out)
          clear hp hbl hot
          try simp only [Act.put]
          refine tl_nilN ?_
          replace HB := Lib.hid hBS
          clear hBS
          go_wp2_with fail
          go_roundw
          case rel => exact ⟨k + 1, by omega, by go_num, (by rw [HTK.out, takeL_snoc]; exact HX_b5_2.out), HB.out⟩
          case measure => simp [intOf]; omega
        · obtain rfl : n = k := by omega
          have k3 : ¬ (n : Int) < (n : Int) := by omega
          have HTA : Hid (L.take n = L) := Lib.hid (List.take_of_length_le (Nat.le_of_eq HN.out))
          rw [HTA.out, take_putL okC_zero] at HX_b5_2
          clear HTA
          go_upto_region 17 with fail
          refine wp_act (fun a0 ha0 => ?_)
          have zsz : a0.tmps.size = 82 := by rw [ha0]; rfl
          have z5 : a0.eval (.tmp 5) = .pointer (some ⟨b5_2, 0, none⟩) := by rw [ha0]; rfl
          refine wp_region_flwo (E := Flz) [] slotsCr17 waitCr17 [Fct.val Flz 0 (aggC zC), Fct.val Flz 1 (.bool true), Fct.val Flz 2 (.bool true)] (fun w' => Below wr.heap.size wr w') _ 3 0 chkCr17 (by kernel_rfl) rfl (by kernel_rfl) (by decide) (Below.refl _ _) ?_ ?_
          · refine lt_s (lt_s (lt_s (lt_0) ?_) ?_) ?_
            · intro f w1 hS hf
              generalize hA : putAll _ _ f = aA
              have r5 : aA.eval (.tmp 5) = .pointer (some ⟨b5_2, 0, none⟩) := by rw [← hA]; exact putAll_off f 5 slotsCr17 a0 (by kernel_rfl) z5
              exact flw_val rfl rfl (aggC zC) (ex_loadR 28 (.tmp 5) rfl ⟨b5_2, 0, none⟩ r5 (fun _ => by kernel_rfl) (encC zC) (by rw [encC_len]; kernel_rfl) ((HX_b5_2.out.keepB hS).part (encC zC) 0 (encC_all zC))) hS (Flz.refl _) (updF_self _ _ _)
            · intro f w1 hS hf
              generalize hA : putAll _ _ f = aA
              have h80 : f 0 = aggC zC := hf 0 (by decide)
              have r80 : aA.eval (.tmp 80) = aggC zC := by rw [← hA]; exact putAll_at f 80 0 slotsCr17 a0 sbCr17 (by kernel_rfl) zsz rfl h80
              exact flw_call rfl rfl 16 #[(.tmp 80)] _ rfl #[aggC zC] (by simp only [List.map_toArray, List.map_cons, List.map_nil, r80]) (fun w => by kernel_rfl) (fun v _ => v = .bool true) (as_any (zeroC_any zC w1) (congrArg Value.bool (decide_eq_true (rfl : zC = zC)))) (fun v w' hr hb => ⟨hS.trans (hb.mono hS.size), Flz.of hb, (updF_self _ _ _).trans hr⟩)
            · intro f w1 hS hf
              generalize hA : putAll _ _ f = aA
              have h81 : f 1 = .bool true := hf 1 (by decide)
              have r81 : aA.eval (.tmp 81) = .bool true := by rw [← hA]; exact putAll_at f 81 1 slotsCr17 a0 sbCr17 (by kernel_rfl) zsz rfl h81
              exact flw_val rfl rfl (.bool true) (ex_assign (.tmp 81) rfl r81) hS (Flz.refl _) (updF_self _ _ _)
          intro f w17 hS hf hap
          have h0 : f 0 = aggC zC := hf 0 (by decide)
          have h1 : f 1 = .bool true := hf 1 (by decide)
          have h2 : f 2 = .bool true := hf 2 (by decide)
          clear hf hap
          clear zsz z5
          subst ha0
          simp only [slotsCr17, putAll, h0, h1, h2, Act.put, List.setIfInBounds_toArray, List.set_cons_zero, List.set_cons_succ]
          clear h0 h1 h2
          refine tl_nil ?_
          replace HX_b5_2 := Lib.hid (HX_b5_2.out.keepB hS)
          replace HB := Lib.hid (HB.out.trans (hS.mono HB.out.size))
          clear hS
          go_wp2_with fail
          go_ret
          exact ⟨rfl, HB.out⟩
end Go.Proofs.YtihkbblapfjobaaDoor
