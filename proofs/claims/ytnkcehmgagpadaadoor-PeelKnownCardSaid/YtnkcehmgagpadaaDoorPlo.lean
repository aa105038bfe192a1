/- Contract: place.Of. Conditions: the sums' tables are laid; a seed of 64 bits. -/
import Derived.Test.YtnkcehmgagpadaaDoorSq
import Derived.Test.YtnkcehmgagpadaaDoorGp1
import Derived.Test.YtnkcehmgagpadaaDoorGp7
namespace Go.Proofs.YtnkcehmgagpadaaDoor
open Go.RowKit
theorem i64_w64 (n : Int) : IntKind.i64.wrap n = wrap64 n := by unfold wrap64; exact IntKind.wrap_i64 n
theorem word_box (s : Su) (i : Nat) (w : World) : Calls Tryd.prog 75 #[.agg (encU s).toArray, .int .i64 (i : Nat)] w fun e w' => e = .returned (.int .u64 (M (wordOf s.1 (i : Nat)))) ∧ Below w.heap.size w w' := word_any s.1 s.2 i w
def waitPl3 (i : Nat) : List Nat := ([[], [], [1], [], [0, 2, 3], [4], [], [0, 1, 2, 3, 4, 5, 6]] : List (List Nat)).getD i []
def slotsPl3 : List (Nat × Nat) := [(14, 0), (15, 1), (16, 2), (17, 3), (18, 4), (19, 5), (7, 6)]
theorem sbPl3 : slotsB slotsPl3 = true := by kernel_rfl
theorem chkPl3 : flwB slotsPl3 waitPl3 7 (regOf Tryd.f60.body 3) = true := by kernel_rfl
set_option maxHeartbeats 4000000 in
set_option maxRecDepth 100000 in
theorem placeOf_b (s : Nat) (hs : s < 18446744073709551616) (n : Int) (x : Su) (w w0 : World) (hB : Below w.heap.size w w0) (hL : Laid w) :
  Calls Tryd.prog 60 #[.int .u64 (s : Nat), .int .i64 n, .agg (encU x).toArray] w0 fun e w' => (∃ v, e = .returned v ∧ InsF w.heap.size w' v (places s n x)) ∧ Below w.heap.size w w' := by
 have HL := Lib.hid hL
 have HSZ := Lib.hid hL.size
 have HSD := Lib.hid hs
 have HB := Lib.hid hB
 clear hL hs hB
 go_enter Tryd.func60, Tryd.ntmps60
 go_upto_region 0 with fail
 refine wp_region_lit ?_
 try simp only [Act.put, List.setIfInBounds_toArray, List.set_cons_zero, List.set_cons_succ]
 refine lp_step rfl (fun K hK => wp_box_row 42 (.tmp 2) rfl (.agg (encU x).toArray) rfl (hK _ _ ?_))
 try simp only [Act.put, List.setIfInBounds_toArray, List.set_cons_zero, List.set_cons_succ]
 show wpList _ _ _ _ _ (w0.alloc (.cells (encU x).toArray 42))
 have HST : Hid (Below w0.heap.size w0 (w0.alloc (.cells (encU x).toArray 42))) := Lib.hid ((Below.refl _ _).alloc (Nat.le_refl _) _)
 have HX1 : Hid (Has (w0.alloc (.cells (encU x).toArray 42)) w0.heap.size 42 (encU x)) := Lib.hid (Has.made' _ _ _ _ rfl)
 have HGg1 : Hid (w.heap.size ≤ w0.heap.size) := Lib.hid HB.out.size
 replace HB := Lib.hid (HB.out.trans (HST.out.mono HB.out.size))
 clear HST
 generalize w0.alloc (.cells (encU x).toArray 42) = w1 at *
 generalize w0.heap.size = g1 at *
 refine lp_pure rfl (ex_assign _ rfl rfl) ?_
 try simp only [Act.put, List.setIfInBounds_toArray, List.set_cons_zero, List.set_cons_succ]
 refine wpList_nil ?_
 obtain ⟨gd, hgd⟩ : ∃ gd, goodN n = gd := ⟨_, rfl⟩
 have HGD := Lib.hid hgd
 have hcall := good14_p n
 rw [hgd] at hcall
 clear hgd
 cases gd
 ·go_wp2_with ((with_reducible refine (hcall _).mono ?_); rintro e w8 ⟨rfl, hb8⟩; have HB8 := Lib.hid (HB.out.trans (hb8.mono HB.out.size)); clear hb8)
  go_ret
  exact ⟨⟨_, rfl, by rw [places_none HGD.out]; exact InsF.none _ _⟩, HB8.out⟩
 go_upto_region 3 with ((with_reducible refine (hcall _).mono ?_); rintro e w8 ⟨rfl, hb8⟩; have HB8 := Lib.hid (HB.out.trans (hb8.mono HB.out.size)); have HX8 := Lib.hid (HX1.out.keepB hb8); clear hb8)
 clear hcall
 replace HX1 := Lib.hid HX8.out
 replace HB := Lib.hid HB8.out
 clear HX8 HB8
 have HST : Hid (Below w8.heap.size w8 w8.drew) := Lib.hid (Below.refl _ _).drew
 replace HX1 := Lib.hid (HX1.out.keepB HST.out)
 replace HB := Lib.hid (HB.out.trans (HST.out.mono HB.out.size))
 clear HST
 refine wp_act (fun a0 ha0 => ?_)
 have zsz : a0.tmps.size = 44 := by rw [ha0]; rfl
 have z0 : a0.eval (.tmp 0) = .int .u64 ((s : Int)) := by rw [ha0]; rfl
 have z5 : a0.eval (.tmp 5) = .pointer (some ⟨g1, 0, none⟩) := by rw [ha0]; rfl
 refine wrD [] slotsPl3 waitPl3 [Fct.obj 0 (fun v w => ∃ g, v = .slice (some ⟨g, 0, none⟩) 1 1 ∧ w8.drew.heap.size ≤ g ∧ Cl w g 5 (t80.map u8v)) (fun _ _ _ ⟨g, a, b, c⟩ he => ⟨g, a, b, c.flz he⟩), Fct.val Flz 1 (.int .u64 ((s : Int))), Fct.obj 2 (fun v w => ∃ g, v = .slice (some ⟨g, 0, none⟩) 8 8 ∧ w8.drew.heap.size ≤ g ∧ Cl w g 5 ((seedL s).map u8v)) (fun _ _ _ ⟨g, a, b, c⟩ he => ⟨g, a, b, c.flz he⟩), Fct.val Flz 3 (.slice (some ⟨g1, 0, none⟩) 32 32), Fct.obj 4 (fun v w => ∃ g g2 k, v = .slice (some ⟨k, 0, none⟩) 3 3 ∧ Cl w k 45 [.slice (some ⟨g, 0, none⟩) 1 1, .slice (some ⟨g2, 0, none⟩) 8 8, .slice (some ⟨g1, 0, none⟩) 32 32] ∧ Cl w g 5 (t80.map u8v) ∧ Cl w g2 5 ((seedL s).map u8v)) (fun _ _ _ ⟨g, g2, k, a, b, c, d⟩ he => ⟨g, g2, k, a, b.flz he, c.flz he, d.flz he⟩), Fct.val Flz 5 (.agg (encU (placeS s x)).toArray), Fct.obj 6 (fun v w => ∃ g, v = .pointer (some ⟨g, 0, none⟩) ∧ w8.drew.heap.size ≤ g ∧ Has w g 42 (encU zS)) (fun _ _ _ ⟨g, a, b, c⟩ he => ⟨g, a, b, c.flz he (by decide)⟩)] (fun w' => Below w8.drew.heap.size w8.drew w') _ 7 1 chkPl3 (by kernel_rfl) (by kernel_rfl) (by kernel_rfl) (by kernel_rfl) (by decide) (Below.refl _ _) ?_ ?_
 ·refine lt_s (lt_s (lt_s (lt_s (lt_s (lt_s (lt_s (lt_0) ?_) ?_) ?_) ?_) ?_) ?_) ?_
  ·intro f w1 hS hf aA hA
   exact flw_wp rfl rfl (fun K hK => wp_lit8 1 _ rfl ((t80.map u8v).toArray) (by decide) (by decide) (by kernel_rfl) (hK _ _ (hS.alloc hS.size _) (Flz.al _ _) ⟨_, uS, hS.size, Cl.made _ _ _⟩))
  ·intro f w1 hS hf aA hA
   have r0 := qO 0 hA z0
   exact fV rfl rfl _ (ex_move (.tmp 0) rfl r0) hS uS
  ·intro f w1 hS hf aA hA
   have r15 := qA 15 1 hA sbPl3 zsz (hf 1 (by decide))
   exact flw_call rfl rfl 74 #[(.tmp 15)] _ rfl #[.int .u64 ((s : Int))] (mp1 r15) (fun w => by kernel_rfl) (fun v w' => ∃ g, v = .slice (some ⟨g, 0, none⟩) 8 8 ∧ w1.heap.size ≤ g ∧ Cl w' g 5 ((seedL s).map u8v)) (lowest_fresh s HSD.out w1) (fun v w' hr hb => ⟨hS.trans (hb.mono hS.size), Flz.of hb, by obtain ⟨g, a, b, c⟩ := hr; exact ⟨g, uS.trans a, Nat.le_trans hS.size b, c⟩⟩)
  ·intro f w1 hS hf aA hA
   have r5 := qO 5 hA z5
   exact fV rfl rfl _ (ex_sliceU (.tmp 5) rfl g1 r5) hS uS
  ·intro f w1 hS hf aA hA
   have e14 := pA 14 0 hA sbPl3 (by kernel_rfl) zsz rfl rfl
   have e16 := pA 16 2 hA sbPl3 (by kernel_rfl) zsz rfl rfl
   have r17 := qA 17 3 hA sbPl3 zsz (hf 3 (by decide))
   obtain ⟨g, hv, hg, hc⟩ := hf 0 (by decide)
   obtain ⟨g2, hv2, hg2, hc2⟩ := hf 2 (by decide)
   exact flw_wp rfl rfl (fun K hK => wp_three_bs (.tmp 14) (.tmp 16) (.tmp 17) rfl (some ⟨g, 0, none⟩) 1 1 (some ⟨g2, 0, none⟩) 8 8 (some ⟨g1, 0, none⟩) 32 32 (e14.trans hv) (e16.trans hv2) r17 (hK _ _ (hS.alloc hS.size _) (Flz.al _ _) ⟨g, g2, _, uS, Cl.made _ _ [_, _, _], hc.flz (Flz.al _ _), hc2.flz (Flz.al _ _)⟩))
  ·intro f w1 hS hf aA hA
   have e18 := pA 18 4 hA sbPl3 (by kernel_rfl) zsz rfl rfl
   obtain ⟨g, g2, k, hv, hk, hc, hc2⟩ := hf 4 (by decide)
   have hlen : (x).1.length = 32 := (x).2
   have HOF := of_at3 (x := t80) (y := seedL s) (z := (x).1) hk (some ⟨g, 0, none⟩) 1 rfl (by decide) hc.sees (some ⟨g2, 0, none⟩) 8 rfl (Nat.le_of_eq rfl) hc2.sees (some ⟨g1, 0, none⟩) 32 (by rw [hlen]) (Nat.le_of_eq hlen) (Cl.sees (HX1.out.keepB hS).cl) (by rw [hlen]; exact of_decide_eq_true rfl) (HL.out.keep (HB.out.trans (hS.mono HB.out.size)) HSZ.out)
   exact fC rfl rfl 15 #[(.tmp 18)] _ rfl #[.slice (some ⟨k, 0, none⟩) 3 3] (by simp only [List.map_toArray, List.map_cons, List.map_nil, e18, hv]) (fun w => by kernel_rfl) _ HOF hS (fun _ _ h => uS.trans h)
  ·intro f w1 hS hf aA hA
   exact flw_wp rfl rfl (fun K hK => wp_alloc_row 42 rfl (.agg (encU zS).toArray) (fun w => by kernel_rfl) (hK _ _ (hS.alloc hS.size _) (Flz.al _ _) ⟨_, uS, hS.size, Has.made' _ _ _ _ rfl⟩))
 intro f u3 hS hf hap
 obtain ⟨gl0, h0, -⟩ := hf 0 (by decide)
 have h1 := eqL (hf 1 (by decide)) rfl
 obtain ⟨gl2, h2, -⟩ := hf 2 (by decide)
 have h3 := eqL (hf 3 (by decide)) rfl
 obtain ⟨_, _, gl4, h4, -⟩ := hf 4 (by decide)
 have h5 := eqL (hf 5 (by decide)) rfl
 obtain ⟨b3_6, h6, hgb6, hhb6⟩ := hf 6 (by decide)
 clear hf hap
 clear zsz z0 z5
 subst ha0
 simp only [slotsPl3, putAll, h0, h1, h2, h3, h4, h5, h6, Act.put, List.setIfInBounds_toArray, List.set_cons_zero, List.set_cons_succ]
 clear h0 h1 h2 h3 h4 h5 h6
 refine tl_store rfl (by kernel_rfl) 42 (.tmp 7) (.tmp 19) rfl b3_6 (encU (placeS s x)) _ rfl rfl _ hhb6 (by rw [encU_len]; kernel_rfl) (by simp only [encU_len]) (encU_all _) ?_
 intro w9 hp6 hbl hot
 replace hS := hS.trans (hbl _ hgb6)
 clear hbl hot hhb6
 try simp only [Act.put]
 refine tl_nilN ?_
 replace HX1 := Lib.hid (HX1.out.keepB hS)
 have HBW := Lib.hid HB.out.size
 replace HB := Lib.hid (HB.out.trans (hS.mono HB.out.size))
 clear hS
 have HGb3_6 : Hid (w.heap.size ≤ b3_6) := Lib.hid (Nat.le_trans HBW.out hgb6)
 have HX_b3_6 : Hid (Has w9 b3_6 42 (encU (placeS s x))) := Lib.hid hp6
 clear hp6 hgb6
 clear HBW
 obtain ⟨p, hp1, hp2, rfl⟩ := good_part HGD.out
 have HP1 := Lib.hid hp1
 have HP2 := Lib.hid hp2
 have q1 : (3 * (p : Int)) / 3 = p := by omega
 have mk := make3 w9
 go_wp2_with fail
 generalize hwa : w9.alloc _ = wa
 have HR : Hid (Has wa w9.heap.size 3 ((placesTo s (3 * p) x 0).map fun n => Value.int .i64 n)) := Lib.hid (by subst hwa; exact Has.made' _ _ _ _ rfl)
 have HGR : Hid (w.heap.size ≤ w9.heap.size) := Lib.hid HB.out.size
 replace HX_b3_6 := Lib.hid ((HX_b3_6.out).keepB (by subst hwa; exact (Below.refl _ _).alloc (Nat.le_refl _) _ : Below w9.heap.size w9 wa))
 replace HB : Hid (Below w.heap.size w wa) := Lib.hid (by subst hwa; exact HB.out.alloc HGR.out _)
 clear hwa mk
 have HNE : Hid (b3_6 ≠ w9.heap.size) := Lib.hid (Has.apartT HX_b3_6.out HR.out (by decide))
 generalize w9.heap.size = gr at *
 clear HX1
 go_loopw [25] (fun i wr => ∃ k : Nat, k ≤ 3 ∧ i = .int .i64 k ∧ Has wr gr 3 ((placesTo s (3 * p) x k).map fun n => Value.int .i64 n) ∧ Has wr b3_6 42 (encU (placeS s x)) ∧ Below w.heap.size w wr) (fun i _ => 3 - (intOf i).toNat)
 case atStart => exact ⟨0, by omega, rfl, HR.out, HX_b3_6.out, HB.out⟩
 case round =>
  clear HR HX_b3_6 HB
  rename_i wr
  obtain ⟨k, hk, rfl, hr, hx, hB⟩ := hrel
  have HR := Lib.hid hr
  have HX := Lib.hid hx
  have HB := Lib.hid hB
  clear hr hx hB
  by_cases hlt : k < 3
  ·have HP := Lib.hid (placesTo_put s (3 * p) x k hlt)
   have HAT : Hid (placeAt s (3 * p) x k = k * p + M (wordOf (placeS s x).1 k) % p) := Lib.hid (by unfold placeAt; rw [show (3 * (p : Int)) / 3 = p by omega])
   have HM : Hid (0 ≤ M (wordOf (placeS s x).1 k)) := Lib.hid (M_nonneg _)
   have HWD := Lib.hid (word_box (placeS s x) k)
   generalize M (wordOf (placeS s x).1 k) = m at *
   have m0 : 0 ≤ m % (p : Int) := Int.emod_nonneg _ (by omega)
   have m1 : m % (p : Int) < p := Int.emod_lt_of_pos _ (by omega)
   have hp0 : ¬ ((p : Int) = 0) := by omega
   have hkp : (k : Int) * p ≤ 2 * 341 := by
    have : k = 0 ∨ k = 1 ∨ k = 2 := by omega
    rcases this with rfl | rfl | rfl <;> simp <;> omega
   have hkp0 : 0 ≤ (k : Int) * p := Int.mul_nonneg (by omega) (by omega)
   have hk3 : (k : Int) < 3 := by omega
   have ew : IntKind.u64.wrap (p : Int) = p := by rw [wrap_u64']; omega
   have em : IntKind.i64.wrap (m % (p : Int)) = m % (p : Int) := by rw [IntKind.wrap_i64]; omega
   have ek : IntKind.i64.wrap ((k : Int) * p) = (k : Int) * p := by rw [IntKind.wrap_i64]; omega
   have ea : IntKind.i64.wrap ((k : Int) * p + m % (p : Int)) = (k : Int) * p + m % (p : Int) := by rw [IntKind.wrap_i64]; omega
   have ct : ∃ u, wr.cell? ⟨gr, k, none⟩ = some (.int .i64 u) := by
    refine ⟨((placesTo s (3 * p) x k)[k]'(by rw [placesTo_len _ _ _ _ hk]; omega)), HR.out.cellv ?_⟩
    rw [List.getElem?_map, List.getElem?_eq_getElem (by rw [placesTo_len _ _ _ _ hk]; omega)]; rfl
   obtain ⟨u, ct⟩ := ct
   have ft := HR.out.free k
   go_wp2_with (first | (refine wpList_load_row rfl 42 _ rfl b3_6 rfl 42 _ (0, 0) _ HX.out Tryd.underlying42 rfl (by rw [List.size_toArray, encU_len]; kernel_rfl) ?_) | ((with_reducible refine (HWD.out _).mono ?_); rintro e w7 ⟨rfl, hb7⟩; have HB7 := Lib.hid hb7; clear hb7; have ct7 := (HB7.out.cell (p := ⟨gr, k, none⟩) (HR.out.lt)).trans ct; have HR7 := Lib.hid (HR.out.keepB HB7.out); have ft7 := HR7.out.free k))
   go_roundw
   case rel =>
    refine ⟨k + 1, by omega, by go_num, ?_, (HX.out.keepB HB7.out).off (by simp; exact HNE.out) _, (HB.out.trans (HB7.out.mono HB.out.size)).setCell (by simp; exact HGR.out) _⟩
    have := HR7.out.put k (Value.int .i64 (placeAt s (3 * p) x k))
    rw [← List.map_set, HP.out] at this
    have e9 : wrap64 ((k : Int) * p + wrap64 (m.tmod p)) = placeAt s (3 * p) x k := by rw [← i64_w64, ← i64_w64, Int.tmod_eq_emod_of_nonneg HM.out, em, ea, HAT.out]
    rw [← e9] at this
    exact this
   case measure => simp [intOf]; omega
  ·have : k = 3 := by omega
   subst this
   have k1 : ¬ ((3 : Nat) : Int) < 3 := by omega
   go_wp2_with fail
   go_ret
   refine ⟨⟨_, rfl, ?_⟩, HB.out⟩
   rw [← placesTo_full HGD.out]
   exact ⟨Ins.has HR.out (placesTo_len _ _ _ _ hk), fun k hk => by cases hk; exact HGR.out⟩
theorem placeOf_any (s : Nat) (hs : s < 18446744073709551616) (n : Int) (x : Su) (w : World) (hL : Laid w) :
  Calls Tryd.prog 60 #[.int .u64 (s : Nat), .int .i64 n, .agg (encU x).toArray] w fun e w' => (∃ v, e = .returned v ∧ InsF w.heap.size w' v (places s n x)) ∧ Below w.heap.size w w' := placeOf_b s hs n x w w (Below.refl _ _) hL
end Go.Proofs.YtnkcehmgagpadaaDoor
