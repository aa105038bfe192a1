/- Contract: place.Of. Conditions: the sums' tables are laid; a seed of 64 bits. -/
import Derived.Test.YtbkddcafalhflaaDoorGp1
import Derived.Test.YtbkddcafalhflaaDoorGp2
namespace Go.Proofs.YtbkddcafalhflaaDoor
open Go.RowKit
theorem i64_w64 (n : Int) : IntKind.i64.wrap n = wrap64 n := by unfold wrap64; exact IntKind.wrap_i64 n
theorem word_box (s : Su) (i : Nat) (w : World) : Calls Tryd.prog 16 #[.agg (encU s).toArray, .int .i64 (i : Nat)] w fun e w' => e = .returned (.int .u64 (M (wordOf s.1 (i : Nat)))) ∧ Below w.heap.size w w' := word_any s.1 s.2 i w
def waitPl3 (i : Nat) : List Nat := ([[], [], [1], [], [0, 2, 3], [4], [], [0, 1, 2, 3, 4, 5, 6]] : List (List Nat)).getD i []
def slotsPl3 : List (Nat × Nat) := [(14, 0), (15, 1), (16, 2), (17, 3), (18, 4), (19, 5), (7, 6)]
theorem sbPl3 : slotsB slotsPl3 = true := by kernel_rfl
theorem chkPl3 : flwB slotsPl3 waitPl3 7 (regOf Tryd.f8.body 3) = true := by kernel_rfl
set_option maxHeartbeats 4000000 in
set_option maxRecDepth 100000 in
theorem placeOf_b (s : Nat) (hs : s < 18446744073709551616) (n : Int) (x : Su) (w w0 : World) (hB : Below w.heap.size w w0) (hL : Laid w) :
    Calls Tryd.prog 8 #[.int .u64 (s : Nat), .int .i64 n, .agg (encU x).toArray] w0 fun e w' => (∃ v, e = .returned v ∧ Ins w' v (places s n x)) ∧ Below w.heap.size w w' := by
  have HL := Lib.hid hL
  have HSZ := Lib.hid hL.size
  have HSD := Lib.hid hs
  have HB := Lib.hid hB
  clear hL hs hB
  go_enter Tryd.func8, Tryd.ntmps8
  go_upto_region 0 with fail
  refine wp_region_lit ?_
  try simp only [Act.put, List.setIfInBounds_toArray, List.set_cons_zero, List.set_cons_succ]
  refine lp_step rfl (fun K hK => wp_box_row 28 (.tmp 2) rfl (.agg (encU x).toArray) rfl (hK _ _ ?_))
  try simp only [Act.put, List.setIfInBounds_toArray, List.set_cons_zero, List.set_cons_succ]
  show wpList _ _ _ _ _ (w0.alloc (.cells (encU x).toArray 28))
  have HST : Hid (Below w0.heap.size w0 (w0.alloc (.cells (encU x).toArray 28))) := Lib.hid ((Below.refl _ _).alloc (Nat.le_refl _) _)
  have HX1 : Hid (Has (w0.alloc (.cells (encU x).toArray 28)) w0.heap.size 28 (encU x)) := Lib.hid (Has.made' _ _ _ _ rfl)
  have HGg1 : Hid (w.heap.size ≤ w0.heap.size) := Lib.hid HB.out.size
  replace HB := Lib.hid (HB.out.trans (HST.out.mono HB.out.size))
  clear HST
  generalize w0.alloc (.cells (encU x).toArray 28) = w1 at *
  generalize w0.heap.size = g1 at *
  refine lp_pure rfl (ex_assign _ rfl rfl) ?_
  try simp only [Act.put, List.setIfInBounds_toArray, List.set_cons_zero, List.set_cons_succ]
  refine wpList_nil ?_
  obtain ⟨gd, hgd⟩ : ∃ gd, goodN n = gd := ⟨_, rfl⟩
  have HGD := Lib.hid hgd
  have hcall := good14_p n
  rw [hgd] at hcall
  clear hgd
  cases gd
  · go_wp2_with ((with_reducible refine (hcall _).mono ?_); rintro e w8 ⟨rfl, hb8⟩; have HB8 := Lib.hid (HB.out.trans (hb8.mono HB.out.size)); clear hb8)
    go_ret
    exact ⟨⟨_, rfl, by rw [places_none HGD.out]; exact Ins.none _⟩, HB8.out⟩
  go_upto_region 3 with ((with_reducible refine (hcall _).mono ?_); rintro e w8 ⟨rfl, hb8⟩; have HB8 := Lib.hid (HB.out.trans (hb8.mono HB.out.size)); have HX8 := Lib.hid (HX1.out.keepB hb8); clear hb8)
  clear hcall
  replace HX1 := Lib.hid HX8.out
  replace HB := Lib.hid HB8.out
  clear HX8 HB8
  have HST : Hid (Below w8.heap.size w8 w8.drew) := Lib.hid (Below.refl _ _).drew
  replace HX1 := Lib.hid (HX1.out.keepB HST.out)
  replace HB := Lib.hid (HB.out.trans (HST.out.mono HB.out.size))
  clear HST
  refine wp_act (fun a0 ha0 => ?_)
  have zsz : a0.tmps.size = 44 := by rw [ha0]; rfl
  have z0 : a0.eval (.tmp 0) = .int .u64 ((s : Int)) := by rw [ha0]; rfl
  have z5 : a0.eval (.tmp 5) = .pointer (some ⟨g1, 0, none⟩) := by rw [ha0]; rfl
  refine wp_region_flw (E := Flz) [] slotsPl3 waitPl3 [Fct.obj 0 (fun v w => ∃ g, v = .slice (some ⟨g, 0, none⟩) 1 1 ∧ w8.drew.heap.size ≤ g ∧ Cl w g 5 (t80.map u8v)) (fun _ _ _ ⟨g, a, b, c⟩ he => ⟨g, a, b, c.flz he⟩), Fct.val Flz 1 (.int .u64 ((s : Int))), Fct.obj 2 (fun v w => ∃ g, v = .slice (some ⟨g, 0, none⟩) 8 8 ∧ w8.drew.heap.size ≤ g ∧ Cl w g 5 ((seedL s).map u8v)) (fun _ _ _ ⟨g, a, b, c⟩ he => ⟨g, a, b, c.flz he⟩), Fct.val Flz 3 (.slice (some ⟨g1, 0, none⟩) 32 32), Fct.obj 4 (fun v w => ∃ g g2 k, v = .slice (some ⟨k, 0, none⟩) 3 3 ∧ Cl w k 36 [.slice (some ⟨g, 0, none⟩) 1 1, .slice (some ⟨g2, 0, none⟩) 8 8, .slice (some ⟨g1, 0, none⟩) 32 32] ∧ Cl w g 5 (t80.map u8v) ∧ Cl w g2 5 ((seedL s).map u8v)) (fun _ _ _ ⟨g, g2, k, a, b, c, d⟩ he => ⟨g, g2, k, a, b.flz he, c.flz he, d.flz he⟩), Fct.val Flz 5 (.agg (encU (placeS s x)).toArray), Fct.obj 6 (fun v w => ∃ g, v = .pointer (some ⟨g, 0, none⟩) ∧ w8.drew.heap.size ≤ g ∧ Has w g 28 (encU zS)) (fun _ _ _ ⟨g, a, b, c⟩ he => ⟨g, a, b, c.flz he (by decide)⟩)] (fun w' => Below w8.drew.heap.size w8.drew w') _ 7 1 chkPl3 (by kernel_rfl) (by kernel_rfl) (by kernel_rfl) (by kernel_rfl) (by decide) (Below.refl _ _) ?_ ?_
  · refine lt_s (lt_s (lt_s (lt_s (lt_s (lt_s (lt_s (lt_0) ?_) ?_) ?_) ?_) ?_) ?_) ?_
    · intro f w1 hS hf
      generalize hA : putAll _ _ f = aA
      exact flw_wp rfl rfl (fun K hK => wp_lit8 1 _ rfl ((t80.map u8v).toArray) (by decide) (by decide) (by kernel_rfl) (hK _ _ (hS.alloc hS.size _) (Flz.al _ _) ⟨_, updF_self _ _ _, hS.size, Cl.made _ _ _⟩))
    · intro f w1 hS hf
      generalize hA : putAll _ _ f = aA
      have r0 : aA.eval (.tmp 0) = .int .u64 ((s : Int)) := by rw [← hA]; exact putAll_off f 0 slotsPl3 a0 (by kernel_rfl) z0
      exact flw_val rfl rfl (.int .u64 ((s : Int))) (ex_move (.tmp 0) rfl r0) hS (Flz.refl _) (updF_self _ _ _)
    · intro f w1 hS hf
      generalize hA : putAll _ _ f = aA
      have h15 : f 1 = .int .u64 ((s : Int)) := hf 1 (by decide)
      have r15 : aA.eval (.tmp 15) = .int .u64 ((s : Int)) := by rw [← hA]; exact putAll_at f 15 1 slotsPl3 a0 sbPl3 (by kernel_rfl) zsz rfl h15
      exact flw_call rfl rfl 15 #[(.tmp 15)] _ rfl #[.int .u64 ((s : Int))] (by simp only [List.map_toArray, List.map_cons, List.map_nil, r15]) (fun w => by kernel_rfl) (fun v w' => ∃ g, v = .slice (some ⟨g, 0, none⟩) 8 8 ∧ w1.heap.size ≤ g ∧ Cl w' g 5 ((seedL s).map u8v)) (lowest_fresh s HSD.out w1) (fun v w' hr hb => ⟨hS.trans (hb.mono hS.size), Flz.of hb, by obtain ⟨g, a, b, c⟩ := hr; exact ⟨g, (updF_self _ _ _).trans a, Nat.le_trans hS.size b, c⟩⟩)
    · intro f w1 hS hf
      generalize hA : putAll _ _ f = aA
      have r5 : aA.eval (.tmp 5) = .pointer (some ⟨g1, 0, none⟩) := by rw [← hA]; exact putAll_off f 5 slotsPl3 a0 (by kernel_rfl) z5
      exact flw_val rfl rfl (.slice (some ⟨g1, 0, none⟩) 32 32) (ex_sliceU (.tmp 5) rfl g1 r5) hS (Flz.refl _) (updF_self _ _ _)
    · intro f w1 hS hf
      generalize hA : putAll _ _ f = aA
      have e14 : aA.eval (.tmp 14) = f 0 := by rw [← hA]; exact putAll_at f 14 0 slotsPl3 a0 sbPl3 (by kernel_rfl) zsz rfl rfl
      have e16 : aA.eval (.tmp 16) = f 2 := by rw [← hA]; exact putAll_at f 16 2 slotsPl3 a0 sbPl3 (by kernel_rfl) zsz rfl rfl
      have h17 : f 3 = .slice (some ⟨g1, 0, none⟩) 32 32 := hf 3 (by decide)
      have r17 : aA.eval (.tmp 17) = .slice (some ⟨g1, 0, none⟩) 32 32 := by rw [← hA]; exact putAll_at f 17 3 slotsPl3 a0 sbPl3 (by kernel_rfl) zsz rfl h17
      obtain ⟨g, hv, hg, hc⟩ := hf 0 (by decide)
      obtain ⟨g2, hv2, hg2, hc2⟩ := hf 2 (by decide)
      exact flw_wp rfl rfl (fun K hK => wp_three_bs (.tmp 14) (.tmp 16) (.tmp 17) rfl (some ⟨g, 0, none⟩) 1 1 (some ⟨g2, 0, none⟩) 8 8 (some ⟨g1, 0, none⟩) 32 32 (e14.trans hv) (e16.trans hv2) r17 (hK _ _ (hS.alloc hS.size _) (Flz.al _ _) ⟨g, g2, _, updF_self _ _ _, Cl.made _ _ [_, _, _], hc.flz (Flz.al _ _), hc2.flz (Flz.al _ _)⟩))
    · intro f w1 hS hf
      generalize hA : putAll _ _ f = aA
      have e18 : aA.eval (.tmp 18) = f 4 := by rw [← hA]; exact putAll_at f 18 4 slotsPl3 a0 sbPl3 (by kernel_rfl) zsz rfl rfl
      obtain ⟨g, g2, k, hv, hk, hc, hc2⟩ := hf 4 (by decide)
      have hlen : (x).1.length = 32 := (x).2
      have HOF := of_at3 (x := t80) (y := seedL s) (z := (x).1) hk (some ⟨g, 0, none⟩) 1 rfl (by decide) hc.sees (some ⟨g2, 0, none⟩) 8 rfl (Nat.le_of_eq rfl) hc2.sees (some ⟨g1, 0, none⟩) 32 (by rw [hlen]) (Nat.le_of_eq hlen) (Cl.sees (HX1.out.keepB hS).cl) (by rw [hlen]; exact of_decide_eq_true rfl) (HL.out.keep (HB.out.trans (hS.mono HB.out.size)) HSZ.out)
      exact flw_call rfl rfl 14 #[(.tmp 18)] _ rfl #[.slice (some ⟨k, 0, none⟩) 3 3] (by simp only [List.map_toArray, List.map_cons, List.map_nil, e18, hv]) (fun w => by kernel_rfl) (fun v _ => v = .agg (encU (placeS s x)).toArray) HOF (fun v w' hr hb => ⟨hS.trans (hb.mono hS.size), Flz.of hb, (updF_self _ _ _).trans hr⟩)
    · intro f w1 hS hf
      generalize hA : putAll _ _ f = aA
      exact flw_wp rfl rfl (fun K hK => wp_alloc_row 28 rfl (.agg (encU zS).toArray) (fun w => by kernel_rfl) (hK _ _ (hS.alloc hS.size _) (Flz.al _ _) ⟨_, updF_self _ _ _, hS.size, Has.made' _ _ _ _ rfl⟩))
  intro f u3 hS hf hap
  obtain ⟨gl0, h0, -⟩ := hf 0 (by decide)
  have h1 : f 1 = .int .u64 ((s : Int)) := hf 1 (by decide)
  obtain ⟨gl2, h2, -⟩ := hf 2 (by decide)
  have h3 : f 3 = .slice (some ⟨g1, 0, none⟩) 32 32 := hf 3 (by decide)
  obtain ⟨_, _, gl4, h4, -⟩ := hf 4 (by decide)
  have h5 : f 5 = .agg (encU (placeS s x)).toArray := hf 5 (by decide)
  obtain ⟨b3_6, h6, hgb6, hhb6⟩ := hf 6 (by decide)
  clear hf hap
  clear zsz z0 z5
  subst ha0
  simp only [slotsPl3, putAll, h0, h1, h2, h3, h4, h5, h6, Act.put, List.setIfInBounds_toArray, List.set_cons_zero, List.set_cons_succ]
  clear h0 h1 h2 h3 h4 h5 h6
  refine tl_store rfl (by kernel_rfl) 28 (.tmp 7) (.tmp 19) rfl b3_6 (encU (placeS s x)) _ rfl rfl _ hhb6 (by rw [encU_len]; kernel_rfl) (by simp only [encU_len]) (encU_all _) ?_
  intro w9 hp6 hbl hot
  replace hS := hS.trans (hbl _ hgb6)
  clear hbl hot hhb6
  try simp only [Act.put]
  refine tl_nilN ?_
  replace HX1 := Lib.hid (HX1.out.keepB hS)
  have HBW := Lib.hid HB.out.size
  replace HB := Lib.hid (HB.out.trans (hS.mono HB.out.size))
  clear hS
  have HGb3_6 : Hid (w.heap.size ≤ b3_6) := Lib.hid (Nat.le_trans HBW.out hgb6)
  have HX_b3_6 : Hid (Has w9 b3_6 28 (encU (placeS s x))) := Lib.hid hp6
  clear hp6 hgb6
  clear HBW
  obtain ⟨p, hp1, hp2, rfl⟩ := good_part HGD.out
  have HP1 := Lib.hid hp1
  have HP2 := Lib.hid hp2
  have q1 : (3 * (p : Int)) / 3 = p := by omega
  have mk := make3 w9
  go_wp2_with fail
  generalize hwa : w9.alloc _ = wa
  have HR : Hid (Has wa w9.heap.size 3 ((placesTo s (3 * p) x 0).map fun n => Value.int .i64 n)) := Lib.hid (by subst hwa; exact Has.made' _ _ _ _ rfl)
  have HGR : Hid (w.heap.size ≤ w9.heap.size) := Lib.hid HB.out.size
  replace HX_b3_6 := Lib.hid ((HX_b3_6.out).keepB (by subst hwa; exact (Below.refl _ _).alloc (Nat.le_refl _) _ : Below w9.heap.size w9 wa))
  replace HB : Hid (Below w.heap.size w wa) := Lib.hid (by subst hwa; exact HB.out.alloc HGR.out _)
  clear hwa mk
  have HNE : Hid (b3_6 ≠ w9.heap.size) := Lib.hid (Has.apartT HX_b3_6.out HR.out (by decide))
  generalize w9.heap.size = gr at *
  clear HX1
  go_loopw [25] (fun i wr => ∃ k : Nat, k ≤ 3 ∧ i = .int .i64 k ∧ Has wr gr 3 ((placesTo s (3 * p) x k).map fun n => Value.int .i64 n) ∧ Has wr b3_6 28 (encU (placeS s x)) ∧ Below w.heap.size w wr) (fun i _ => 3 - (intOf i).toNat)
  case atStart => exact ⟨0, by omega, rfl, HR.out, HX_b3_6.out, HB.out⟩
  case round =>
    clear HR HX_b3_6 HB
    rename_i wr
    obtain ⟨k, hk, rfl, hr, hx, hB⟩ := hrel
    have HR := Lib.hid hr
    have HX := Lib.hid hx
    have HB := Lib.hid hB
    clear hr hx hB
    by_cases hlt : k < 3
    · have HP := Lib.hid (placesTo_put s (3 * p) x k hlt)
      have HAT : Hid (placeAt s (3 * p) x k = k * p + M (wordOf (placeS s x).1 k) % p) := Lib.hid (by unfold placeAt; rw [show (3 * (p : Int)) / 3 = p by omega])
      have HM : Hid (0 ≤ M (wordOf (placeS s x).1 k)) := Lib.hid (M_nonneg _)
      have HWD := Lib.hid (word_box (placeS s x) k)
      generalize M (wordOf (placeS s x).1 k) = m at *
      have m0 : 0 ≤ m % (p : Int) := Int.emod_nonneg _ (by omega)
      have m1 : m % (p : Int) < p := Int.emod_lt_of_pos _ (by omega)
      have hp0 : ¬ ((p : Int) = 0) := by omega
      have hkp : (k : Int) * p ≤ 2 * 341 := by
        have : k = 0 ∨ k = 1 ∨ k = 2 := by omega
        rcases this with rfl | rfl | rfl <;> simp <;> omega
      have hkp0 : 0 ≤ (k : Int) * p := Int.mul_nonneg (by omega) (by omega)
      have hk3 : (k : Int) < 3 := by omega
      have ew : IntKind.u64.wrap (p : Int) = p := by rw [wrap_u64']; omega
      have em : IntKind.i64.wrap (m % (p : Int)) = m % (p : Int) := by rw [IntKind.wrap_i64]; omega
      have ek : IntKind.i64.wrap ((k : Int) * p) = (k : Int) * p := by rw [IntKind.wrap_i64]; omega
      have ea : IntKind.i64.wrap ((k : Int) * p + m % (p : Int)) = (k : Int) * p + m % (p : Int) := by rw [IntKind.wrap_i64]; omega
      have ct : ∃ u, wr.cell? ⟨gr, k, none⟩ = some (.int .i64 u) := by
        refine ⟨((placesTo s (3 * p) x k)[k]'(by rw [placesTo_len _ _ _ _ hk]; omega)), HR.out.cellv ?_⟩
        rw [List.getElem?_map, List.getElem?_eq_getElem (by rw [placesTo_len _ _ _ _ hk]; omega)]; rfl
      obtain ⟨u, ct⟩ := ct
      have ft := HR.out.free k
      go_wp2_with (first | (refine wpList_load_row rfl 28 _ rfl b3_6 rfl 28 _ (0, 0) _ HX.out Tryd.underlying28 rfl (by rw [List.size_toArray, encU_len]; kernel_rfl) ?_) | ((with_reducible refine (HWD.out _).mono ?_); rintro e w7 ⟨rfl, hb7⟩; have HB7 := Lib.hid hb7; clear hb7; have ct7 := (HB7.out.cell (p := ⟨gr, k, none⟩) (HR.out.lt)).trans ct; have HR7 := Lib.hid (HR.out.keepB HB7.out); have ft7 := HR7.out.free k))
      go_roundw
      case rel =>
        refine ⟨k + 1, by omega, by go_num, ?_, (HX.out.keepB HB7.out).off (by simp; exact HNE.out) _, (HB.out.trans (HB7.out.mono HB.out.size)).setCell (by simp; exact HGR.out) _⟩
        have := HR7.out.put k (Value.int .i64 (placeAt s (3 * p) x k))
        rw [← List.map_set, HP.out] at this
        have e9 : wrap64 ((k : Int) * p + wrap64 (m.tmod p)) = placeAt s (3 * p) x k := by rw [← i64_w64, ← i64_w64, Int.tmod_eq_emod_of_nonneg HM.out, em, ea, HAT.out]
        rw [← e9] at this
        exact this
      case measure => simp [intOf]; omega
    · have : k = 3 := by omega
      subst this
      have k1 : ¬ ((3 : Nat) : Int) < 3 := by omega
      go_wp2_with fail
      go_ret
      refine ⟨⟨_, rfl, ?_⟩, HB.out⟩
      rw [← placesTo_full HGD.out]
      exact Ins.has HR.out (placesTo_len _ _ _ _ hk)
theorem placeOf_any (s : Nat) (hs : s < 18446744073709551616) (n : Int) (x : Su) (w : World) (hL : Laid w) :
    Calls Tryd.prog 8 #[.int .u64 (s : Nat), .int .i64 n, .agg (encU x).toArray] w fun e w' => (∃ v, e = .returned v ∧ Ins w' v (places s n x)) ∧ Below w.heap.size w w' := placeOf_b s hs n x w w (Below.refl _ _) hL
end Go.Proofs.YtbkddcafalhflaaDoor
/- Contract: the law's own ints: whether both rows are alike. Condition: at most a million numbers. -/
namespace Go.Proofs.YtbkddcafalhflaaDoor
open Go.RowKit
set_option maxHeartbeats 4000000 in
set_option maxRecDepth 100000 in
theorem ints14_any (a b : List Int) (va vb : Value) (ha : a.length ≤ 1000000) (w : World) (hva : Ins w va a) (hvb : Ins w vb b) :
    Calls Tryd.prog 11 #[va, vb] w fun e w' => e = .returned (.bool (decide (a = b))) ∧ Below w.heap.size w w' := by
  obtain ⟨q, c, rfl, hs⟩ := hva
  obtain ⟨p, d, rfl, ht⟩ := hvb
  have HS := Lib.hid hs
  have HT := Lib.hid ht
  clear hs ht
  by_cases hne : a.length = b.length
  · obtain ⟨n, hn⟩ : ∃ n, a.length = n := ⟨_, rfl⟩
    have HA := Lib.hid hn
    have HBL : Hid (b.length = n) := Lib.hid (by omega)
    rw [← hne, hn]
    rw [hn] at ha
    have n0 : (n : Int) ≤ 1000000 := by omega
    clear hn hne
    go_enter Tryd.func11, Tryd.ntmps11
    go_wp2_with fail
    go_loopw [5] (fun vi wr => ∃ i : Nat, i ≤ n ∧ vi = .int .i64 i ∧ a.take i = b.take i ∧ Below w.heap.size w wr) (fun vi _ => n - (intOf vi).toNat)
    case atStart => exact ⟨0, by omega, rfl, rfl, Below.refl _ _⟩
    case round =>
      rename_i wr
      obtain ⟨i, hi, rfl, he, hB⟩ := hrel
      have HBB := Lib.hid hB
      have HE := Lib.hid he
      clear hB he
      by_cases hlt : i < n
      · have hia : i < a.length := by rw [HA.out]; exact hlt
        have hib : i < b.length := by rw [HBL.out]; exact hlt
        obtain ⟨ap, rfl, hap, hcp⟩ := HS.out.get (by rw [List.length_map]; omega)
        obtain ⟨aq, rfl, haq, hcq⟩ := HT.out.get (by rw [List.length_map]; omega)
        have HCP : Hid (∀ w', Below w.heap.size w w' → w'.cell? (ap.add i) = some (.int .i64 a[i])) := Lib.hid (fun w' hb => (hb.cell (by rw [add_block]; exact hap)).trans (hcp i _ (by rw [List.getElem?_map, List.getElem?_eq_getElem hia]; rfl)))
        have HCQ : Hid (∀ w', Below w.heap.size w w' → w'.cell? (aq.add i) = some (.int .i64 b[i])) := Lib.hid (fun w' hb => (hb.cell (by rw [add_block]; exact haq)).trans (hcq i _ (by rw [List.getElem?_map, List.getElem?_eq_getElem hib]; rfl)))
        have HTA := Lib.hid (List.take_succ_eq_append_getElem hia)
        have HTB := Lib.hid (List.take_succ_eq_append_getElem hib)
        have HNE : Hid (a[i] ≠ b[i] → a ≠ b) := Lib.hid (fun h e => h (by subst e; rfl))
        clear hcp hcq hap haq
        generalize a[i] = u at *
        generalize b[i] = v at *
        have i1 : (i : Int) < n := by omega
        go_wp2_with fail
        refine wp_region_org ((List.range 9).map (·, true)) (by kernel_rfl) (by kernel_rfl) (by kernel_rfl) ?_
        replace HBB := Lib.hid HBB.out.drew
        generalize wr.drew = w13 at *
        simp only [List.range_succ, List.range_zero, List.nil_append, List.cons_append, List.map_cons, List.map_nil, pickOrs, List.getElem?_cons_zero, List.getElem?_cons_succ]
        refine org_pure (v := ?_) (by kernel_rfl) ?_ ?_
        rotate_left
        · intro w' hv; clear hv; go_simp; try with_reducible rfl
        try simp only [Act.put, List.setIfInBounds_toArray, List.set_cons_zero, List.set_cons_succ]
        refine org_pure (v := ?_) (by kernel_rfl) ?_ ?_
        rotate_left
        · intro w' hv; clear hv; go_simp; try with_reducible rfl
        try simp only [Act.put, List.setIfInBounds_toArray, List.set_cons_zero, List.set_cons_succ]
        refine org_pure (v := ?_) (by kernel_rfl) ?_ ?_
        rotate_left
        · intro w' hv; clear hv; go_simp; try with_reducible rfl
        try simp only [Act.put, List.setIfInBounds_toArray, List.set_cons_zero, List.set_cons_succ]
        refine org_pure (v := ?_) (by kernel_rfl) ?_ ?_
        rotate_left
        · intro w' hv; have cp := HCP.out w' (HBB.out.trans (Below.mono hv HBB.out.size)); clear hv; go_simp; try with_reducible rfl
        try simp only [Act.put, List.setIfInBounds_toArray, List.set_cons_zero, List.set_cons_succ]
        refine org_pure (v := ?_) (by kernel_rfl) ?_ ?_
        rotate_left
        · intro w' hv; clear hv; go_simp; try with_reducible rfl
        try simp only [Act.put, List.setIfInBounds_toArray, List.set_cons_zero, List.set_cons_succ]
        refine org_pure (v := ?_) (by kernel_rfl) ?_ ?_
        rotate_left
        · intro w' hv; clear hv; go_simp; try with_reducible rfl
        try simp only [Act.put, List.setIfInBounds_toArray, List.set_cons_zero, List.set_cons_succ]
        refine org_pure (v := ?_) (by kernel_rfl) ?_ ?_
        rotate_left
        · intro w' hv; clear hv; go_simp; try with_reducible rfl
        try simp only [Act.put, List.setIfInBounds_toArray, List.set_cons_zero, List.set_cons_succ]
        refine org_pure (v := ?_) (by kernel_rfl) ?_ ?_
        rotate_left
        · intro w' hv; have cq := HCQ.out w' (HBB.out.trans (Below.mono hv HBB.out.size)); clear hv; go_simp; try with_reducible rfl
        try simp only [Act.put, List.setIfInBounds_toArray, List.set_cons_zero, List.set_cons_succ]
        refine org_pure (v := ?_) (by kernel_rfl) ?_ ?_
        rotate_left
        · intro w' hv; clear hv; go_simp; try with_reducible rfl
        try simp only [Act.put, List.setIfInBounds_toArray, List.set_cons_zero, List.set_cons_succ]
        refine org_nil ?_
        by_cases huv : u = v
        · subst huv
          have hu : (!(u == u)) = false := by simp
          go_wp2_with fail
          go_roundw
          case rel => exact ⟨i + 1, by omega, by go_num, by rw [HTA.out, HTB.out, HE.out], HBB.out⟩
          case measure => simp [intOf]; omega
        · have HF := Lib.hid (HNE.out huv)
          have hu : (u == v) = false := by simp [huv]
          go_wp2_with fail
          go_ret
          exact ⟨congrArg (fun x => Ending.returned (.bool x)) (decide_eq_false HF.out).symm, HBB.out⟩
      · have hin : i = n := by omega
        subst hin
        have HF : Hid (a = b) := Lib.hid (by
          have := HE.out
          rwa [List.take_of_length_le (by rw [HA.out]; exact Nat.le_refl _), List.take_of_length_le (by rw [HBL.out]; exact Nat.le_refl _)] at this)
        have i1 : ¬ ((i : Nat) : Int) < i := by omega
        go_wp2_with fail
        go_ret
        exact ⟨congrArg (fun x => Ending.returned (.bool x)) (decide_eq_true HF.out).symm, HBB.out⟩
  · have HF : Hid (a ≠ b) := Lib.hid (fun e => hne (by rw [e]))
    have hne2 : ((a.length : Int) == (b.length : Int)) = false := by simp; omega
    generalize a.length = n at *
    generalize b.length = m at *
    go_enter Tryd.func11, Tryd.ntmps11
    go_wp2_with fail
    go_ret
    exact ⟨congrArg (fun x => Ending.returned (.bool x)) (decide_eq_false HF.out).symm, Below.refl _ _⟩
end Go.Proofs.YtbkddcafalhflaaDoor
/- Contract: the law's own awake: true. Condition: the sums' tables are laid. -/
namespace Go.Proofs.YtbkddcafalhflaaDoor
open Go.RowKit
theorem Flz.cell_at {w w' : World} (h : Flz w w') {a : Addr} {u : Value} (hc : w.cell? a = some u) : w'.cell? a = some u := by
  unfold World.cell? at hc ⊢
  generalize hg : w.heap[a.block]? = o at hc
  match o, hg with
  | some (.cells cs t f), hg =>
    obtain ⟨f', hf⟩ := h.2.2 _ _ _ _ hg
    rw [hf]
    exact hc
  | some (.map ..), _ => exact absurd hc (by simp)
  | none, _ => exact absurd hc (by simp)
theorem Ins.flzE {w w' : World} {v : Value} {l : List Int} (h : Ins w v l) (he : Flz w w') : Ins w' v l := by
  obtain ⟨q, c, rfl, hs⟩ := h
  refine ⟨q, c, rfl, fun hl => ?_⟩
  obtain ⟨a, h1, h2, h3⟩ := hs hl
  exact ⟨a, h1, Nat.lt_of_lt_of_le h2 he.1, fun j u hj => he.cell_at (h3 j u hj)⟩
theorem wp_lit_ints {o : Oper} {a : Act} {w : World} {K : Act → World → Prop} {Q : Exit → Act → World → Prop} (n : Nat) (parts : Array (Nat × Operand)) (ho : o.op = .buildSlice 23 n parts) (cs : Array Value) (h0 : n ≠ 0) (h9 : n ≤ 16777216)
    (hf : Instr.fill (fun i => some (i * 1, 1)) ((Array.range (n * 1)).map ((Value.int .i64 0).cells[· % (Value.int .i64 0).cells.size]!)) (parts.map fun (i, x) => (i, a.eval x)).toList = some cs)
    (h : K (a.put o.dst (.slice (some ⟨w.heap.size, 0, none⟩) n n)) (w.alloc (.cells cs 3))) : o.wp Tryd.prog a w K Q := by
  obtain ⟨i8x, hi8, hz8, hs8, _⟩ := info_parts (show (Tryd.prog.info? 3).map (fun i => (i.zero, i.size, i.bytes)) = some (some (.int .i64 0), 1, 8) by kernel_rfl)
  refine wp_buildSlice 23 3 n parts ho cs i8x _ Tryd.underlying23 hi8 hz8 (by rw [hs8]; omega) (by rw [hs8]; omega) ?_ h
  rw [hs8]; exact hf
theorem Ins.litE (w : World) (l : List Int) (n : Nat) (hn : l.length = n) : Ins (w.alloc (.cells (l.map fun n => Value.int .i64 n).toArray 3)) (.slice (some ⟨w.heap.size, 0, .none⟩) n n) l := Ins.has (Has.made' _ _ _ _ rfl) hn
theorem awake_at (x : Su) : decide (places 7 3 x = [0, 1, 2]) = true := by
  refine decide_eq_true ?_
  unfold places placeAt
  simp [goodN, List.range_succ, List.range_zero, Int.emod_one]
theorem as_val {P : Program} {g : FuncId} {us : Array Value} {w : World} {u : Value} (h : Calls P g us w fun e w' => e = .returned u ∧ Below w.heap.size w w') : Calls P g us w fun e w' => (∃ v, e = .returned v ∧ v = u) ∧ Below w.heap.size w w' := Calls.mono h fun _ _ h => ⟨⟨u, h.1, rfl⟩, h.2⟩
def waitPaw1 (i : Nat) : List Nat := ([[], [0], [1], [2], [3], [], [4, 5], [6], [7], [7, 8], [9]] : List (List Nat)).getD i []
def slotsPaw1 : List (Nat × Nat) := [(1, 0), (2, 1), (3, 2), (4, 3), (5, 4), (6, 5), (7, 6), (8, 7), (9, 8), (10, 9), (0, 10)]
theorem sbPaw1 : slotsB slotsPaw1 = true := by kernel_rfl
theorem chkPaw1 : flwO slotsPaw1 waitPaw1 11 (regOf Tryd.f6.body 1) = true := by kernel_rfl
set_option maxHeartbeats 4000000 in
set_option maxRecDepth 100000 in
theorem awake14_b  (w w0 : World) (hB : Below w.heap.size w w0) (hL : Laid w) : Calls Tryd.prog 6 #[] w0 fun e w' => (∃ v, e = .returned v ∧ v = .bool true) ∧ Below w.heap.size w w' := by
  go_enter Tryd.func6, Tryd.ntmps6
  have HB := Lib.hid hB
  clear hB
  have HL := Lib.hid hL
  have HSZ := Lib.hid hL.size
  clear hL
  go_upto_region 1 with fail
  refine wp_act (fun a0 ha0 => ?_)
  have zsz : a0.tmps.size = 11 := by rw [ha0]; rfl
  refine wp_region_flwo (E := Flz) [] slotsPaw1 waitPaw1 [Fct.obj 0 (fun v w => ∃ g, v = .slice (some ⟨g, 0, none⟩) 1 1 ∧ w0.heap.size ≤ g ∧ Cl w g 5 (tX.map u8v)) (fun _ _ _ ⟨g, a, b, c⟩ he => ⟨g, a, b, c.flz he⟩), Fct.obj 1 (fun v w => ∃ g, v = .slice (some ⟨g, 0, none⟩) 1 1 ∧ w0.heap.size ≤ g ∧ Cl w g 5 (tX.map u8v)) (fun _ _ _ ⟨g, a, b, c⟩ he => ⟨g, a, b, c.flz he⟩), Fct.obj 2 (fun v w => ∃ g k, v = .slice (some ⟨k, 0, none⟩) 1 1 ∧ Cl w k 36 [.slice (some ⟨g, 0, none⟩) 1 1] ∧ Cl w g 5 (tX.map u8v)) (fun _ _ _ ⟨g, k, a, b, c⟩ he => ⟨g, k, a, b.flz he, c.flz he⟩), Fct.val Flz 3 (.agg (encU (shaU tX)).toArray), Fct.obj 4 (fun v w => Ins w v (places 7 3 (shaU tX))) (fun _ _ _ h he => h.flzE he), Fct.obj 5 (fun v w => Ins w v ([0, 1, 2])) (fun _ _ _ h he => h.flzE he), Fct.val Flz 6 (.bool true), Fct.val Flz 7 (.bool true), Fct.val Flz 8 (.bool true), Fct.val Flz 9 (.bool true), Fct.val Flz 10 (.bool true)] (fun w' => Below w0.heap.size w0 w') _ 11 0 chkPaw1 (by kernel_rfl) (by kernel_rfl) (by kernel_rfl) (by decide) (Below.refl _ _) ?_ ?_
  · refine lt_s (lt_s (lt_s (lt_s (lt_s (lt_s (lt_s (lt_s (lt_s (lt_s (lt_s (lt_0) ?_) ?_) ?_) ?_) ?_) ?_) ?_) ?_) ?_) ?_) ?_
    · intro f w1 hS hf
      generalize hA : putAll _ _ f = aA
      exact flw_wp rfl rfl (fun K hK => wp_lit8 1 _ rfl ((tX.map u8v).toArray) (by decide) (by decide) (by kernel_rfl) (hK _ _ (hS.alloc hS.size _) (Flz.al _ _) ⟨_, updF_self _ _ _, hS.size, Cl.made _ _ _⟩))
    · intro f w1 hS hf
      generalize hA : putAll _ _ f = aA
      have e1 : aA.eval (.tmp 1) = f 0 := by rw [← hA]; exact putAll_at f 1 0 slotsPaw1 a0 sbPaw1 (by kernel_rfl) zsz rfl rfl
      obtain ⟨g, hv, hg, hc⟩ := hf 0 (by decide)
      exact flw_wp rfl rfl (fun K hK => wp_conv_at (.tmp 1) rfl g 1 1 _ (e1.trans hv) hc (hK _ _ (hS.trans (freeze_flz hc hg).2) (freeze_flz hc hg).1 ⟨g, updF_self _ _ _, hg, hc.flz (freeze_flz hc hg).1⟩))
    · intro f w1 hS hf
      generalize hA : putAll _ _ f = aA
      have e2 : aA.eval (.tmp 2) = f 1 := by rw [← hA]; exact putAll_at f 2 1 slotsPaw1 a0 sbPaw1 (by kernel_rfl) zsz rfl rfl
      obtain ⟨g, hv, hg, hc⟩ := hf 1 (by decide)
      exact flw_wp rfl rfl (fun K hK => wp_one_bs (.tmp 2) rfl (some ⟨g, 0, none⟩) 1 1 (e2.trans hv) (hK _ _ (hS.alloc hS.size _) (Flz.al _ _) ⟨g, _, updF_self _ _ _, Cl.made _ _ [_], hc.flz (Flz.al _ _)⟩))
    · intro f w1 hS hf
      generalize hA : putAll _ _ f = aA
      have e3 : aA.eval (.tmp 3) = f 2 := by rw [← hA]; exact putAll_at f 3 2 slotsPaw1 a0 sbPaw1 (by kernel_rfl) zsz rfl rfl
      obtain ⟨g, k, hv, hk, hc⟩ := hf 2 (by decide)
      have HOF := of_at (x := tX) hk (some ⟨g, 0, none⟩) 1 rfl (by decide) hc.sees (by decide) (HL.out.keep (HB.out.trans (hS.mono HB.out.size)) HSZ.out)
      exact flw_call rfl rfl 14 #[(.tmp 3)] _ rfl #[.slice (some ⟨k, 0, none⟩) 1 1] (by simp only [List.map_toArray, List.map_cons, List.map_nil, e3, hv]) (fun w => by kernel_rfl) (fun v _ => v = .agg (encU (shaU tX)).toArray) HOF (fun v w' hr hb => ⟨hS.trans (hb.mono hS.size), Flz.of hb, (updF_self _ _ _).trans hr⟩)
    · intro f w1 hS hf
      generalize hA : putAll _ _ f = aA
      have h4 : f 3 = .agg (encU (shaU tX)).toArray := hf 3 (by decide)
      have r4 : aA.eval (.tmp 4) = .agg (encU (shaU tX)).toArray := by rw [← hA]; exact putAll_at f 4 3 slotsPaw1 a0 sbPaw1 (by kernel_rfl) zsz rfl h4
      exact flw_call rfl rfl 8 #[_, _, (.tmp 4)] _ rfl #[.int .u64 7, .int .i64 3, .agg (encU (shaU tX)).toArray] (by simp only [List.map_toArray, List.map_cons, List.map_nil, r4]; rfl) (fun w => by kernel_rfl) (fun v w' => Ins w' v (places 7 3 (shaU tX))) (placeOf_any 7 (by decide) 3 (shaU tX) w1 (HL.out.keep (HB.out.trans (hS.mono HB.out.size)) HSZ.out)) (fun v w' hr hb => ⟨hS.trans (hb.mono hS.size), Flz.of hb, (show Ins w' (updF f 4 v 4) (places 7 3 (shaU tX)) by rw [updF_self]; exact hr)⟩)
    · intro f w1 hS hf
      generalize hA : putAll _ _ f = aA
      exact flw_wp rfl rfl (fun K hK => wp_lit_ints 3 _ rfl (([0, 1, 2] : List Int).map fun n => Value.int .i64 n).toArray (by decide) (by decide) (by kernel_rfl) (hK _ _ (hS.alloc hS.size _) (Flz.al _ _) (show Ins _ (updF f 5 _ 5) [0, 1, 2] by rw [updF_self]; exact Ins.litE _ _ 3 rfl)))
    · intro f w1 hS hf
      generalize hA : putAll _ _ f = aA
      have hu4 : Ins w1 (f 4) (places 7 3 (shaU tX)) := (hf 4 (by decide))
      have e5 : aA.eval (.tmp 5) = f 4 := by rw [← hA]; exact putAll_at f 5 4 slotsPaw1 a0 sbPaw1 (by kernel_rfl) zsz rfl rfl
      have hu5 : Ins w1 (f 5) ([0, 1, 2]) := (hf 5 (by decide))
      have e6 : aA.eval (.tmp 6) = f 5 := by rw [← hA]; exact putAll_at f 6 5 slotsPaw1 a0 sbPaw1 (by kernel_rfl) zsz rfl rfl
      exact flw_call rfl rfl 11 #[(.tmp 5), (.tmp 6)] _ rfl #[f 4, f 5] (by simp only [List.map_toArray, List.map_cons, List.map_nil, e5, e6]) (fun w => by kernel_rfl) (fun v _ => v = .bool true) (as_any (as_val (ints14_any _ _ _ _ (by rw [places_len (by decide)]; decide) w1 hu4 hu5)) (congrArg Value.bool (awake_at _))) (fun v w' hr hb => ⟨hS.trans (hb.mono hS.size), Flz.of hb, (updF_self _ _ _).trans hr⟩)
    · intro f w1 hS hf
      generalize hA : putAll _ _ f = aA
      have h7 : f 6 = .bool true := hf 6 (by decide)
      have r7 : aA.eval (.tmp 7) = .bool true := by rw [← hA]; exact putAll_at f 7 6 slotsPaw1 a0 sbPaw1 (by kernel_rfl) zsz rfl h7
      exact flw_val rfl rfl (.bool true) (ex_move (.tmp 7) rfl r7) hS (Flz.refl _) (updF_self _ _ _)
    · intro f w1 hS hf
      generalize hA : putAll _ _ f = aA
      have g8 : f 7 = .bool true := hf 7 (by decide)
      have t8 : aA.tmps[8]? = some (.bool true) := by rw [← hA]; exact putAll_g f 8 7 slotsPaw1 a0 sbPaw1 (by kernel_rfl) zsz rfl g8
      exact flw_call rfl ((wanted_of rfl 8 rfl t8).trans rfl) 7 #[_] _ rfl #[.int .i64 3] (by kernel_rfl) (fun w => by kernel_rfl) (fun v _ => v = .bool true) (as_any (good14_any 3 w1) (congrArg Value.bool (by decide : goodN 3 = true))) (fun v w' hr hb => ⟨hS.trans (hb.mono hS.size), Flz.of hb, (updF_self _ _ _).trans hr⟩)
    · intro f w1 hS hf
      generalize hA : putAll _ _ f = aA
      have h8 : f 7 = .bool true := hf 7 (by decide)
      have r8 : aA.eval (.tmp 8) = .bool true := by rw [← hA]; exact putAll_at f 8 7 slotsPaw1 a0 sbPaw1 (by kernel_rfl) zsz rfl h8
      have h9 : f 8 = .bool true := hf 8 (by decide)
      have r9 : aA.eval (.tmp 9) = .bool true := by rw [← hA]; exact putAll_at f 9 8 slotsPaw1 a0 sbPaw1 (by kernel_rfl) zsz rfl h9
      exact flw_val rfl rfl (.bool true) (ex_pick (.tmp 8) (.tmp 9) _ rfl true r8 ((if_pos rfl).trans r9)) hS (Flz.refl _) (updF_self _ _ _)
    · intro f w1 hS hf
      generalize hA : putAll _ _ f = aA
      have h10 : f 9 = .bool true := hf 9 (by decide)
      have r10 : aA.eval (.tmp 10) = .bool true := by rw [← hA]; exact putAll_at f 10 9 slotsPaw1 a0 sbPaw1 (by kernel_rfl) zsz rfl h10
      exact flw_val rfl rfl (.bool true) (ex_assign (.tmp 10) rfl r10) hS (Flz.refl _) (updF_self _ _ _)
  intro f u1 hS hf hap
  obtain ⟨gl0, h0, -⟩ := hf 0 (by decide)
  obtain ⟨gl1, h1, -⟩ := hf 1 (by decide)
  obtain ⟨_, gl2, h2, -⟩ := hf 2 (by decide)
  have h3 : f 3 = .agg (encU (shaU tX)).toArray := hf 3 (by decide)
  obtain ⟨v1_4, h4, hu4⟩ : ∃ v, f 4 = v ∧ Ins u1 v (places 7 3 (shaU tX)) := ⟨_, rfl, (hf 4 (by decide))⟩
  have HU1_4 := Lib.hid hu4
  clear hu4
  obtain ⟨v1_5, h5, hu5⟩ : ∃ v, f 5 = v ∧ Ins u1 v ([0, 1, 2]) := ⟨_, rfl, (hf 5 (by decide))⟩
  have HU1_5 := Lib.hid hu5
  clear hu5
  have h6 : f 6 = .bool true := hf 6 (by decide)
  have h7 : f 7 = .bool true := hf 7 (by decide)
  have h8 : f 8 = .bool true := hf 8 (by decide)
  have h9 : f 9 = .bool true := hf 9 (by decide)
  have h10 : f 10 = .bool true := hf 10 (by decide)
  clear hf hap
  clear zsz
  subst ha0
  simp only [slotsPaw1, putAll, h0, h1, h2, h3, h4, h5, h6, h7, h8, h9, h10, Act.put, List.setIfInBounds_toArray, List.set_cons_zero, List.set_cons_succ]
  clear h0 h1 h2 h3 h4 h5 h6 h7 h8 h9 h10
  refine tl_nil ?_
  replace HB := Lib.hid (HB.out.trans (hS.mono HB.out.size))
  clear hS
  go_wp2_with fail
  go_ret
  exact ⟨⟨_, rfl, rfl⟩, HB.out⟩
theorem awake14_any  (w : World) (hL : Laid w) : Calls Tryd.prog 6 #[] w fun e w' => (∃ v, e = .returned v ∧ v = .bool true) ∧ Below w.heap.size w w' := awake14_b  w w (Below.refl _ _) hL
end Go.Proofs.YtbkddcafalhflaaDoor
