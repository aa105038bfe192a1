/- Contracts: the document's own Put and TableOf. Conditions: a seed of 64 bits; at most 10^6 cells, 10^4 sums. -/
import Derived.Test.YtepeloenijlnhaaDoorSq
import Derived.Test.YtepeloenijlnhaaDoorGp4
import Derived.Test.YtepeloenijlnhaaDoorGp7
import Derived.Test.YtepeloenijlnhaaDoorGp10
import Derived.Test.YtepeloenijlnhaaDoorGp3
namespace Go.Proofs.YtepeloenijlnhaaDoor
open Go.RowKit
theorem us_rof {v0 : Value} {A : List Su} {w : World} (h : Us w v0 A) (hn : A.length ≤ 10000) : Calls Tryd.prog 40 #[v0] w fun e w' => (∃ v, e = .returned v ∧ Us w' v (srt A)) ∧ Below w.heap.size w w' := by
 obtain ⟨q, c, rfl, h2, h3, h4⟩ := h
 refine Calls.mono (rof0_any A q c (by omega) w h4) ?_
 rintro e w' ⟨⟨v, rfl, h5⟩, h6⟩
 exact ⟨⟨v, rfl, h5⟩, h6⟩
theorem rplaces_in (s : Nat) (hs : s < 18446744073709551616) (n : Int) (x : Su) (w : World) (b : Nat) (hb : b ≤ w.heap.size) :
  Calls Tryd.prog 43 #[.int .u64 (s : Nat), .int .i64 n, .agg (encU x).toArray] w fun e w' => (∃ v, e = .returned v ∧ ∃ x', v = x' ∧ InsF b w' x' (places s n x)) ∧ Below w.heap.size w w' :=
 Calls.mono (rplaces_any s hs n x w) fun _ _ ⟨⟨u, h1, h2⟩, h3⟩ => ⟨⟨u, h1, u, rfl, h2.less hb⟩, h3⟩
theorem rput_as (c : Ce) (y : Su) (n : Int) (fo : Ce → Su → Ce) (hf : ∀ c y, withC c n y (chkS y) = fo c y) (w : World) : Calls Tryd.prog 44 #[aggC c, .agg (encU y).toArray, .int .i64 n] w fun e w' => (∃ v, e = .returned v ∧ v = aggC (fo c y)) ∧ Below w.heap.size w w' := by
 rw [← hf]; exact rput_any c y n w
def waitTrp1 (i : Nat) : List Nat := ([[], [0], [], [], [3], [2, 4], [1, 5], [], [0, 1, 2, 3, 4, 5, 6, 7]] : List (List Nat)).getD i []
def slotsTrp1 : List (Nat × Nat) := [(10, 0), (11, 1), (12, 2), (13, 3), (14, 4), (15, 5), (16, 6), (7, 7)]
theorem sbTrp1 : slotsB slotsTrp1 = true := by kernel_rfl
theorem chkTrp1 : flwB slotsTrp1 waitTrp1 8 (regOf Tryd.f22.body 1) = true := by kernel_rfl
def waitTrp2 (i : Nat) : List Nat := ([[], [0], [], [2], [3], [], [1, 4, 5], [6]] : List (List Nat)).getD i []
def slotsTrp2 : List (Nat × Nat) := [(17, 0), (18, 1), (19, 2), (20, 3), (21, 4), (22, 5), (23, 6), (8, 7)]
theorem sbTrp2 : slotsB slotsTrp2 = true := by kernel_rfl
theorem chkTrp2 : flwO slotsTrp2 waitTrp2 8 (regOf Tryd.f22.body 2) = true := by kernel_rfl
def waitTrp4t4 (i : Nat) : List Nat := ([[], [], [1], [0, 2]] : List (List Nat)).getD i []
def slotsTrp4t4 : List (Nat × Nat) := [(24, 0), (25, 1), (26, 2), (27, 3)]
theorem sbTrp4t4 : slotsB slotsTrp4t4 = true := by kernel_rfl
theorem chkTrp4t4 : flwO slotsTrp4t4 waitTrp4t4 4 (regOf Tryd.f22.body 4) = true := by kernel_rfl
def waitTrp6 (i : Nat) : List Nat := ([[], [0], [], [], [2, 3], [4], [], [6], [], [], [8, 9], [10], [7, 11], [12], [], [], [13, 14, 15], [1, 5], [0, 1, 2, 3, 4, 5, 6, 7, 8, 9, 10, 11, 12, 13, 14, 15, 16, 17]] : List (List Nat)).getD i []
def slotsTrp6 : List (Nat × Nat) := [(30, 0), (31, 1), (32, 2), (33, 3), (34, 4), (35, 5), (36, 6), (37, 7), (38, 8), (39, 9), (40, 10), (41, 11), (42, 12), (43, 13), (44, 14), (45, 15), (46, 16), (47, 17)]
theorem sbTrp6 : slotsB slotsTrp6 = true := by kernel_rfl
theorem chkTrp6 : flwB slotsTrp6 waitTrp6 18 (regOf Tryd.f22.body 6) = true := by kernel_rfl
def waitTrp4f4 (i : Nat) : List Nat := ([[], [], [1], [0, 2]] : List (List Nat)).getD i []
def slotsTrp4f4 : List (Nat × Nat) := [(24, 0), (25, 1), (26, 2), (27, 3)]
theorem sbTrp4f4 : slotsB slotsTrp4f4 = true := by kernel_rfl
theorem chkTrp4f4 : flwO slotsTrp4f4 waitTrp4f4 4 (regOf Tryd.f22.body 4) = true := by kernel_rfl
def waitTrp4f7 (i : Nat) : List Nat := ([[], [0]] : List (List Nat)).getD i []
def slotsTrp4f7 : List (Nat × Nat) := [(48, 0)]
theorem sbTrp4f7 : slotsB slotsTrp4f7 = true := by kernel_rfl
theorem chkTrp4f7 : flwO slotsTrp4f7 waitTrp4f7 1 (regOf Tryd.f22.body 7) = true := by kernel_rfl
set_option maxHeartbeats 16000000 in
set_option maxRecDepth 100000 in
theorem rputT_b (s : Nat) (y : Su) (n : Int) (v : Value) (L : List Ce) (fo : Ce → Su → Ce) (w w0 : World) (hB : Below w.heap.size w w0) (hs : s < 18446744073709551616) (hf : ∀ c y, withC c n y (chkS y) = fo c y) (hM : L.length ≤ 1000000) (hC : Cs w v L) : Calls Tryd.prog 22 #[.agg #[.int .u64 (s : Int), v], .agg (encU y).toArray, .int .i64 n] w0 fun e w' => (∃ v, e = .returned v ∧ ∃ x, v = .agg #[.int .u64 (s : Int), x] ∧ Cs w' x (layT fo s y L)) ∧ Below w.heap.size w w' := by
 go_enter Tryd.func22, Tryd.ntmps22
 have HB := Lib.hid hB
 clear hB
 have HC := Lib.hid hC
 have HM := Lib.hid hM
 have HSD := Lib.hid hs
 have HFO := Lib.hid hf
 clear hC hM hs hf
 go_upto_region 0 with fail
 refine wp_region_lit ?_
 try simp only [Act.put, List.setIfInBounds_toArray, List.set_cons_zero, List.set_cons_succ]
 refine lp_step rfl (fun K hK => wp_box_row 37 (.tmp 0) rfl (.agg #[.int .u64 (s : Int), v]) rfl (hK _ _ ?_))
 try simp only [Act.put, List.setIfInBounds_toArray, List.set_cons_zero, List.set_cons_succ]
 show wpList _ _ _ _ _ (w0.alloc (.cells (([.int .u64 (s : Int), v] : List Value)).toArray 37))
 have HST : Hid (Below w0.heap.size w0 (w0.alloc (.cells (([.int .u64 (s : Int), v] : List Value)).toArray 37))) := Lib.hid ((Below.refl _ _).alloc (Nat.le_refl _) _)
 have HX1 : Hid (Has (w0.alloc (.cells (([.int .u64 (s : Int), v] : List Value)).toArray 37)) w0.heap.size 37 ([.int .u64 (s : Int), v])) := Lib.hid (Has.made' _ _ _ _ rfl)
 have HGg1 : Hid (w.heap.size ≤ w0.heap.size) := Lib.hid HB.out.size
 replace HB := Lib.hid (HB.out.trans (HST.out.mono HB.out.size))
 clear HST
 generalize w0.alloc (.cells (([.int .u64 (s : Int), v] : List Value)).toArray 37) = w1 at *
 generalize w0.heap.size = g1 at *
 refine lp_step rfl (fun K hK => wp_box_row 52 (.tmp 1) rfl (.agg (encU y).toArray) rfl (hK _ _ ?_))
 try simp only [Act.put, List.setIfInBounds_toArray, List.set_cons_zero, List.set_cons_succ]
 show wpList _ _ _ _ _ (w1.alloc (.cells (encU y).toArray 52))
 have HST : Hid (Below w1.heap.size w1 (w1.alloc (.cells (encU y).toArray 52))) := Lib.hid ((Below.refl _ _).alloc (Nat.le_refl _) _)
 have HLT_g1_g2 : Hid (g1 < w1.heap.size) := Lib.hid HX1.out.lt
 have HNE_g1_g2 : Hid (g1 ≠ w1.heap.size) := Lib.hid (Nat.ne_of_lt HX1.out.lt)
 have HX2 : Hid (Has (w1.alloc (.cells (encU y).toArray 52)) w1.heap.size 52 (encU y)) := Lib.hid (Has.made' _ _ _ _ rfl)
 replace HX1 := Lib.hid (HX1.out.keepB HST.out)
 have HGg2 : Hid (w.heap.size ≤ w1.heap.size) := Lib.hid HB.out.size
 replace HB := Lib.hid (HB.out.trans (HST.out.mono HB.out.size))
 clear HST
 generalize w1.alloc (.cells (encU y).toArray 52) = w2 at *
 generalize w1.heap.size = g2 at *
 refine lp_step rfl (fun K hK => wp_alloc_row 37 rfl (.agg #[.int .u64 0, .slice none 0 0]) (fun w => by kernel_rfl) (hK _ _ ?_))
 try simp only [Act.put, List.setIfInBounds_toArray, List.set_cons_zero, List.set_cons_succ]
 show wpList _ _ _ _ _ (w2.alloc (.cells (([.int .u64 0, .slice none 0 0] : List Value)).toArray 37))
 have HST : Hid (Below w2.heap.size w2 (w2.alloc (.cells (([.int .u64 0, .slice none 0 0] : List Value)).toArray 37))) := Lib.hid ((Below.refl _ _).alloc (Nat.le_refl _) _)
 have HLT_g1_g3 : Hid (g1 < w2.heap.size) := Lib.hid HX1.out.lt
 have HLT_g2_g3 : Hid (g2 < w2.heap.size) := Lib.hid HX2.out.lt
 have HNE_g1_g3 : Hid (g1 ≠ w2.heap.size) := Lib.hid (Nat.ne_of_lt HX1.out.lt)
 have HNE_g2_g3 : Hid (g2 ≠ w2.heap.size) := Lib.hid (Nat.ne_of_lt HX2.out.lt)
 have HX3 : Hid (Has (w2.alloc (.cells (([.int .u64 0, .slice none 0 0] : List Value)).toArray 37)) w2.heap.size 37 ([.int .u64 0, .slice none 0 0])) := Lib.hid (Has.made' _ _ _ _ rfl)
 replace HX1 := Lib.hid (HX1.out.keepB HST.out)
 replace HX2 := Lib.hid (HX2.out.keepB HST.out)
 have HGg3 : Hid (w.heap.size ≤ w2.heap.size) := Lib.hid HB.out.size
 replace HB := Lib.hid (HB.out.trans (HST.out.mono HB.out.size))
 clear HST
 generalize w2.alloc (.cells (([.int .u64 0, .slice none 0 0] : List Value)).toArray 37) = w3 at *
 generalize w2.heap.size = g3 at *
 refine wpList_nil ?_
 have HG3L : Hid (g3 < w3.heap.size) := Lib.hid HX3.out.lt
 have HG1L : Hid (g1 < w3.heap.size) := Lib.hid HX1.out.lt
 have HBB : Hid (w.heap.size ≤ w3.heap.size) := Lib.hid HB.out.size
 go_upto_region 1 with fail
 have HST : Hid (Below w3.heap.size w3 w3.drew) := Lib.hid (Below.refl _ _).drew
 replace HX1 := Lib.hid (HX1.out.keepB HST.out)
 replace HX2 := Lib.hid (HX2.out.keepB HST.out)
 replace HX3 := Lib.hid (HX3.out.keepB HST.out)
 replace HB := Lib.hid (HB.out.trans (HST.out.mono HB.out.size))
 clear HST
 refine wp_act (fun a0 ha0 => ?_)
 have zsz : a0.tmps.size = 49 := by rw [ha0]; rfl
 have z3 : a0.eval (.tmp 3) = .pointer (some ⟨g1, 0, none⟩) := by rw [ha0]; rfl
 refine wrD [] slotsTrp1 waitTrp1 [Fct.val Flz 0 (.pointer (some ⟨g1, 0, none⟩)), Fct.val Flz 1 (.int .u64 (s : Int)), Fct.obj 2 (fun v w => ∃ zz, v = .slice (some ⟨zz, 0, none⟩) 0 0 ∧ RowO w3.drew.heap.size 73 w (.slice (some ⟨zz, 0, none⟩) 0 0) []) (fun _ _ _ ⟨zz, a, b⟩ he => ⟨zz, a, b.flz he⟩), Fct.val Flz 3 (.pointer (some ⟨g1, 1, none⟩)), Fct.val Flz 4 (v), Fct.obj 5 (fun v w => ∃ zz, v = zz ∧ RowO w3.drew.heap.size 73 w zz (L)) (fun _ _ _ ⟨zz, a, b⟩ he => ⟨zz, a, b.flz he⟩), Fct.obj 6 (fun v w => ∃ zz, v = .agg #[.int .u64 (s : Int), zz] ∧ RowO w3.drew.heap.size 73 w zz (L)) (fun _ _ _ ⟨zz, a, b⟩ he => ⟨zz, a, b.flz he⟩), Fct.obj 7 (fun v w => ∃ g, v = .pointer (some ⟨g, 0, none⟩) ∧ w3.drew.heap.size ≤ g ∧ Has w g 37 ([.int .u64 0, .slice none 0 0])) (fun _ _ _ ⟨g, a, b, c⟩ he => ⟨g, a, b, c.flz he (by decide)⟩)] (fun w' => Below w3.drew.heap.size w3.drew w') _ 8 1 chkTrp1 (by kernel_rfl) (by kernel_rfl) (by kernel_rfl) (by kernel_rfl) (by decide) (Below.refl _ _) ?_ ?_
 ·refine lt_s (lt_s (lt_s (lt_s (lt_s (lt_s (lt_s (lt_s (lt_0) ?_) ?_) ?_) ?_) ?_) ?_) ?_) ?_
  ·intro f w1 hS hf aA hA
   have r3 : aA.eval (.tmp 3) = .pointer (some ⟨g1, 0, none⟩) := pO 3 hA (by kernel_rfl) z3
   exact fV rfl rfl (.pointer (some ⟨g1, 0, none⟩)) (fldT0 37 (Or.inr rfl) (.tmp 3) rfl g1 r3) hS uS
  ·intro f w1 hS hf aA hA
   have r10 : aA.eval (.tmp 10) = .pointer (some ⟨g1, 0, none⟩) := pA 10 0 hA sbTrp1 (by kernel_rfl) zsz rfl (hf 0 (by decide))
   exact fV rfl rfl (.int .u64 (s : Int)) (ex_load1 23 (.tmp 10) rfl ⟨g1, 0, none⟩ r10 (fun _ => by kernel_rfl) ((HX1.out.keepB hS).cellv rfl)) hS uS
  ·intro f w1 hS hf aA hA
   exact flw_wp rfl rfl (fun K hK => wp_none_ce 35 73 elR rfl (hK _ _ (hS.alloc hS.size _) (Flz.al _ _) ⟨_, uS, RowO.empty _ _ _ (by decide) hS.size⟩))
  ·intro f w1 hS hf aA hA
   have r3 : aA.eval (.tmp 3) = .pointer (some ⟨g1, 0, none⟩) := pO 3 hA (by kernel_rfl) z3
   exact fV rfl rfl (.pointer (some ⟨g1, 1, none⟩)) (fldT1 37 (Or.inr rfl) (.tmp 3) rfl g1 r3) hS uS
  ·intro f w1 hS hf aA hA
   have r13 : aA.eval (.tmp 13) = .pointer (some ⟨g1, 1, none⟩) := pA 13 3 hA sbTrp1 (by kernel_rfl) zsz rfl (hf 3 (by decide))
   exact fV rfl rfl (v) (ex_load1 35 (.tmp 13) rfl ⟨g1, 1, none⟩ r13 (fun _ => by kernel_rfl) ((HX1.out.keepB hS).cellv rfl)) hS uS
  ·intro f w1 hS hf aA hA
   obtain ⟨x12, hx12, hr12⟩ := hf 2 (by decide)
   have e12 : aA.eval (.tmp 12) = .slice (some ⟨x12, 0, none⟩) 0 0 := pA 12 2 hA sbTrp1 (by kernel_rfl) zsz rfl hx12
   have r14 : aA.eval (.tmp 14) = v := pA 14 4 hA sbTrp1 (by kernel_rfl) zsz rfl (hf 4 (by decide))
   exact flw_wp rfl rfl (fun K hK => wp_app0_ce w3.drew.heap.size 35 73 elR (.tmp 12) (.tmp 14) rfl x12 e12 hr12 _ _ r14 (HC.out.keep (HB.out.trans (hS.mono HB.out.size))) HM.out hS.size (fun v' w' h1 h2 => hK _ _ (hS.trans (h2.mono hS.size)) (Flz.of h2) ⟨_, uS, h1⟩))
  ·intro f w1 hS hf aA hA
   have r11 : aA.eval (.tmp 11) = .int .u64 (s : Int) := pA 11 1 hA sbTrp1 (by kernel_rfl) zsz rfl (hf 1 (by decide))
   obtain ⟨x15, hx15, hr15⟩ := hf 5 (by decide)
   have e15 : aA.eval (.tmp 15) = x15 := pA 15 5 hA sbTrp1 (by kernel_rfl) zsz rfl hx15
   exact flw_val rfl rfl (.agg #[.int .u64 (s : Int), x15]) (ex_build 37 _ rfl #[.int .u64 (s : Int), x15] [(0, .int .u64 (s : Int)), (1, x15)] (by simp only [List.map_toArray, List.map_cons, List.map_nil, r11, e15]) (builtQs _ hr15.sl)) hS (Flz.refl _) ⟨x15, uS, hr15⟩
  ·intro f w1 hS hf aA hA
   exact flw_wp rfl rfl (fun K hK => wp_alloc_row 37 rfl (.agg #[.int .u64 0, .slice none 0 0]) (fun w => by kernel_rfl) (hK _ _ (hS.alloc hS.size _) (Flz.al _ _) ⟨_, uS, hS.size, Has.made' _ _ _ _ rfl⟩))
 intro f u1 hS hf hap
 have h0 : f 0 = .pointer (some ⟨g1, 0, none⟩) := hf 0 (by decide)
 have h1 : f 1 = .int .u64 (s : Int) := hf 1 (by decide)
 obtain ⟨v1_2, h2, -⟩ := hf 2 (by decide)
 have h3 : f 3 = .pointer (some ⟨g1, 1, none⟩) := hf 3 (by decide)
 have h4 : f 4 = v := hf 4 (by decide)
 obtain ⟨v1_5, h5, -⟩ := hf 5 (by decide)
 obtain ⟨v1_6, h6, hu6⟩ := hf 6 (by decide)
 have HU1_6 := Lib.hid hu6
 clear hu6
 obtain ⟨b1_7, h7, hgb7, hhb7⟩ := hf 7 (by decide)
 clear hf hap
 clear zsz z3
 subst ha0
 simp only [slotsTrp1, putAll, h0, h1, h2, h3, h4, h5, h6, h7, Act.put, List.setIfInBounds_toArray, List.set_cons_zero, List.set_cons_succ]
 clear h0 h1 h2 h3 h4 h5 h6 h7
 refine tl_store rfl (by kernel_rfl) 37 (.tmp 7) (.tmp 16) rfl b1_7 ([.int .u64 (s : Int), v1_6]) _ rfl rfl _ hhb7 (by kernel_rfl) rfl (tb_ones _ HU1_6.out.one) ?_
 intro u2 hp7 hbl hot
 replace hS := hS.trans (hbl _ hgb7)
 replace HU1_6 := Lib.hid (HU1_6.out.hotb hhb7 ⟨_, _, _, rfl⟩ (by decide) (hbl 0 (Nat.zero_le _)).size hot)
 clear hbl hot hhb7
 try simp only [Act.put]
 refine tl_nilN ?_
 replace HX1 := Lib.hid (HX1.out.keepB hS)
 replace HX2 := Lib.hid (HX2.out.keepB hS)
 replace HX3 := Lib.hid (HX3.out.keepB hS)
 have HBW := Lib.hid HB.out.size
 replace HB := Lib.hid (HB.out.trans (hS.mono HB.out.size))
 clear hS
 have HNE37 : Hid (b1_7 ≠ g3) := Lib.hid (by have := HG3L.out; have : w3.heap.size ≤ b1_7 := hgb7; omega)
 have HNE17 : Hid (b1_7 ≠ g1) := Lib.hid (by have := HG1L.out; have : w3.heap.size ≤ b1_7 := hgb7; omega)
 have HGb1_7 : Hid (w.heap.size ≤ b1_7) := Lib.hid (Nat.le_trans HBW.out hgb7)
 have HX_b1_7 : Hid (Has u2 b1_7 37 ([.int .u64 (s : Int), v1_6])) := Lib.hid hp7
 clear hp7 hgb7
 clear HBW
 have HRL : Hid (∀ k, Value.ownBlock v1_6 = some k → k < u2.heap.size) := Lib.hid (HU1_6.out.lt)
 go_upto_region 2 with fail
 refine wp_act (fun a0 ha0 => ?_)
 have zsz : a0.tmps.size = 49 := by rw [ha0]; rfl
 have z3 : a0.eval (.tmp 3) = .pointer (some ⟨g1, 0, none⟩) := by rw [ha0]; rfl
 have z4 : a0.eval (.tmp 4) = .pointer (some ⟨g2, 0, none⟩) := by rw [ha0]; rfl
 refine wrO [] slotsTrp2 waitTrp2 [Fct.val Flz 0 (.pointer (some ⟨g1, 0, none⟩)), Fct.val Flz 1 (.int .u64 (s : Int)), Fct.val Flz 2 (.pointer (some ⟨g1, 1, none⟩)), Fct.val Flz 3 (v), Fct.val Flz 4 (.int .i64 (((L).length : Int))), Fct.val Flz 5 (.agg (encU y).toArray), Fct.obj 6 (fun v w => ∃ zz, v = zz ∧ InsF u2.heap.size w zz (places s (((L).length : Int)) y)) (fun _ _ _ ⟨zz, a, b⟩ he => ⟨zz, a, b.flz he⟩), Fct.obj 7 (fun v w => ∃ zz, v = zz ∧ InsF u2.heap.size w zz (places s (((L).length : Int)) y)) (fun _ _ _ ⟨zz, a, b⟩ he => ⟨zz, a, b.flz he⟩)] (fun w' => Below u2.heap.size u2 w') _ 8 0 chkTrp2 (by kernel_rfl) (by kernel_rfl) (by kernel_rfl) (by decide) (Below.refl _ _) ?_ ?_
 ·refine lt_s (lt_s (lt_s (lt_s (lt_s (lt_s (lt_s (lt_s (lt_0) ?_) ?_) ?_) ?_) ?_) ?_) ?_) ?_
  ·intro f w1 hS hf aA hA
   have r3 : aA.eval (.tmp 3) = .pointer (some ⟨g1, 0, none⟩) := pO 3 hA (by kernel_rfl) z3
   exact fV rfl rfl (.pointer (some ⟨g1, 0, none⟩)) (fldT0 37 (Or.inr rfl) (.tmp 3) rfl g1 r3) hS uS
  ·intro f w1 hS hf aA hA
   have r17 : aA.eval (.tmp 17) = .pointer (some ⟨g1, 0, none⟩) := pA 17 0 hA sbTrp2 (by kernel_rfl) zsz rfl (hf 0 (by decide))
   exact fV rfl rfl (.int .u64 (s : Int)) (ex_load1 23 (.tmp 17) rfl ⟨g1, 0, none⟩ r17 (fun _ => by kernel_rfl) ((HX1.out.keepB hS).cellv rfl)) hS uS
  ·intro f w1 hS hf aA hA
   have r3 : aA.eval (.tmp 3) = .pointer (some ⟨g1, 0, none⟩) := pO 3 hA (by kernel_rfl) z3
   exact fV rfl rfl (.pointer (some ⟨g1, 1, none⟩)) (fldT1 37 (Or.inr rfl) (.tmp 3) rfl g1 r3) hS uS
  ·intro f w1 hS hf aA hA
   have r19 : aA.eval (.tmp 19) = .pointer (some ⟨g1, 1, none⟩) := pA 19 2 hA sbTrp2 (by kernel_rfl) zsz rfl (hf 2 (by decide))
   exact fV rfl rfl (v) (ex_load1 35 (.tmp 19) rfl ⟨g1, 1, none⟩ r19 (fun _ => by kernel_rfl) ((HX1.out.keepB hS).cellv rfl)) hS uS
  ·intro f w1 hS hf aA hA
   have r20 : aA.eval (.tmp 20) = v := pA 20 3 hA sbTrp2 (by kernel_rfl) zsz rfl (hf 3 (by decide))
   obtain ⟨q9, c9, hv9, _⟩ := (HC.out.keep (HB.out.trans (hS.mono HB.out.size)))
   exact fV rfl rfl (.int .i64 (((L).length : Int))) (ex_len 35 73 (.tmp 20) rfl (by kernel_rfl) q9 (L).length c9 (r20.trans hv9)) hS uS
  ·intro f w1 hS hf aA hA
   have r4 : aA.eval (.tmp 4) = .pointer (some ⟨g2, 0, none⟩) := pO 4 hA (by kernel_rfl) z4
   exact fV rfl rfl (.agg (encU y).toArray) (ex_loadR 52 (.tmp 4) rfl ⟨g2, 0, none⟩ r4 (fun _ => by kernel_rfl) (encU y) (by rw [encU_len]; kernel_rfl) ((HX2.out.keepB hS).part (encU y) 0 (encU_all' y))) hS uS
  ·intro f w1 hS hf aA hA
   have r18 : aA.eval (.tmp 18) = .int .u64 (s : Int) := pA 18 1 hA sbTrp2 (by kernel_rfl) zsz rfl (hf 1 (by decide))
   have r21 : aA.eval (.tmp 21) = .int .i64 (((L).length : Int)) := pA 21 4 hA sbTrp2 (by kernel_rfl) zsz rfl (hf 4 (by decide))
   have r22 : aA.eval (.tmp 22) = .agg (encU y).toArray := pA 22 5 hA sbTrp2 (by kernel_rfl) zsz rfl (hf 5 (by decide))
   exact fC rfl rfl 43 #[(.tmp 18), (.tmp 21), (.tmp 22)] _ rfl #[.int .u64 (s : Int), .int .i64 (((L).length : Int)), .agg (encU y).toArray] (mp3 r18 r21 r22) (fun w => by kernel_rfl) _ (rplaces_in s HSD.out (((L).length : Int)) y w1 u2.heap.size hS.size) hS (fun _ _ ⟨zz, a, b⟩ => ⟨zz, uS.trans a, b⟩)
  ·intro f w1 hS hf aA hA
   obtain ⟨x23, hx23, hr23⟩ := hf 6 (by decide)
   have e23 : aA.eval (.tmp 23) = x23 := pA 23 6 hA sbTrp2 (by kernel_rfl) zsz rfl hx23
   exact flw_val rfl rfl (x23) (ex_assign (.tmp 23) rfl e23) hS (Flz.refl _) ⟨x23, uS, hr23⟩
 intro f u3 hS hf hap
 have h0 : f 0 = .pointer (some ⟨g1, 0, none⟩) := hf 0 (by decide)
 have h1 : f 1 = .int .u64 (s : Int) := hf 1 (by decide)
 have h2 : f 2 = .pointer (some ⟨g1, 1, none⟩) := hf 2 (by decide)
 have h3 : f 3 = v := hf 3 (by decide)
 have h4 : f 4 = .int .i64 (((L).length : Int)) := hf 4 (by decide)
 have h5 : f 5 = .agg (encU y).toArray := hf 5 (by decide)
 obtain ⟨v2_6, h6, -⟩ := hf 6 (by decide)
 obtain ⟨v2_7, h7, hu7⟩ := hf 7 (by decide)
 have HU2_7 := Lib.hid hu7
 clear hu7
 clear hf hap
 clear zsz z3 z4
 subst ha0
 simp only [slotsTrp2, putAll, h0, h1, h2, h3, h4, h5, h6, h7, Act.put, List.setIfInBounds_toArray, List.set_cons_zero, List.set_cons_succ]
 clear h0 h1 h2 h3 h4 h5 h6 h7
 refine tl_nil ?_
 replace HX1 := Lib.hid (HX1.out.keepB hS)
 replace HX2 := Lib.hid (HX2.out.keepB hS)
 replace HX3 := Lib.hid (HX3.out.keepB hS)
 replace HX_b1_7 := Lib.hid (HX_b1_7.out.keepB hS)
 replace HU1_6 := Lib.hid (HU1_6.out.keep hS)
 replace HB := Lib.hid (HB.out.trans (hS.mono HB.out.size))
 clear hS
 have HPL : Hid (∀ i (h : i < (places s (L.length : Int) y).length), ∃ k : Nat, (places s (L.length : Int) y)[i] = (k : Int) ∧ k < L.length) := Lib.hid (fun i h => place_lt h)
 have HALL : Hid (layTo fo (places s (L.length : Int) y) y L (places s (L.length : Int) y).length = layT fo s y L) := Lib.hid (layTo_all fo s y L)
 have hPLn : (places s (L.length : Int) y).length ≤ 3 := by unfold places; split <;> simp
 generalize places s (L.length : Int) y = PL at *
 rw [← layTo_zero fo PL y L] at HU1_6
 obtain ⟨pa0, pc, hpv, -⟩ := HU2_7.out.len
 have HPV := Lib.hid hpv
 clear hpv
 go_wp2_with fail
 go_loopw [9] (fun vi wr => ∃ i : Nat, i ≤ PL.length ∧ vi = .int .i64 i ∧ RowO w3.drew.heap.size 73 wr v1_6 (layTo fo PL y L i) ∧ Has wr b1_7 37 [.int .u64 (s : Int), v1_6] ∧ Has wr g1 37 [.int .u64 (s : Int), v] ∧ Has wr g2 52 (encU y) ∧ Has wr g3 37 [.int .u64 0, .slice none 0 0] ∧ InsF u2.heap.size wr v2_7 PL ∧ Below w.heap.size w wr) (fun vi _ => PL.length - (intOf vi).toNat)
 case atStart => exact ⟨0, by omega, rfl, HU1_6.out, HX_b1_7.out, HX1.out, HX2.out, HX3.out, HU2_7.out, HB.out⟩
 case round =>
  clear HU1_6 HX_b1_7 HX1 HX2 HX3 HU2_7 HB
  rename_i wr
  obtain ⟨i, hi, rfl, ho, hx7, hx1, hx2, hx3, hn, hB⟩ := hrel
  have HO := Lib.hid ho
  have HX7 := Lib.hid hx7
  have HX1 := Lib.hid hx1
  have HX2 := Lib.hid hx2
  have HX3 := Lib.hid hx3
  have HN := Lib.hid hn
  have HB := Lib.hid hB
  clear ho hx7 hx1 hx2 hx3 hn hB
  by_cases hlt : i < PL.length
  ·obtain ⟨k, hpk, hkL⟩ := HPL.out i hlt
   have hkl : k < (layTo fo PL y L i).length := by rw [layTo_len]; exact hkL
   have HNX : Hid (layTo fo PL y L (i + 1) = (layTo fo PL y L i).set k (fo (layTo fo PL y L i)[k] y)) := Lib.hid (layTo_succ fo PL y L i hlt k hpk hkl)
   have HLT : Hid (decide (((i : Int)) < (((PL).length : Int))) = true) := Lib.hid (decide_eq_true (by omega))
   go_upto_region 4 with fail
   refine wp_act (fun a0 ha0 => ?_)
   have zsz : a0.tmps.size = 49 := by rw [ha0]; rfl
   have z9 : a0.eval (.tmp 9) = .int .i64 ((i : Int)) := by rw [ha0]; rfl
   have z8 : a0.eval (.tmp 8) = v2_7 := by rw [ha0]; rfl
   refine wrO [] slotsTrp4t4 waitTrp4t4 [Fct.val Flz 0 (.int .i64 ((i : Int))), Fct.val Flz 1 (v2_7), Fct.val Flz 2 (.int .i64 (((PL).length : Int))), Fct.val Flz 3 (.bool true)] (fun w' => Below wr.heap.size wr w') _ 4 0 chkTrp4t4 (by kernel_rfl) (by kernel_rfl) (by kernel_rfl) (by decide) (Below.refl _ _) ?_ ?_
   ·refine lt_s (lt_s (lt_s (lt_s (lt_0) ?_) ?_) ?_) ?_
    ·intro f w1 hS hf aA hA
     have r9 : aA.eval (.tmp 9) = .int .i64 ((i : Int)) := pO 9 hA (by kernel_rfl) z9
     exact fV rfl rfl (.int .i64 ((i : Int))) (ex_move (.tmp 9) rfl r9) hS uS
    ·intro f w1 hS hf aA hA
     have r8 : aA.eval (.tmp 8) = v2_7 := pO 8 hA (by kernel_rfl) z8
     exact fV rfl rfl (v2_7) (ex_move (.tmp 8) rfl r8) hS uS
    ·intro f w1 hS hf aA hA
     have r25 : aA.eval (.tmp 25) = v2_7 := pA 25 1 hA sbTrp4t4 (by kernel_rfl) zsz rfl (hf 1 (by decide))
     obtain ⟨q9, c9, hv9, _⟩ := (HN.out.keep hS).len
     exact fV rfl rfl (.int .i64 (((PL).length : Int))) (ex_len 57 3 (.tmp 25) rfl (by kernel_rfl) q9 (PL).length c9 (r25.trans hv9)) hS uS
    ·intro f w1 hS hf aA hA
     have r24 : aA.eval (.tmp 24) = .int .i64 ((i : Int)) := pA 24 0 hA sbTrp4t4 (by kernel_rfl) zsz rfl (hf 0 (by decide))
     have r26 : aA.eval (.tmp 26) = .int .i64 (((PL).length : Int)) := pA 26 2 hA sbTrp4t4 (by kernel_rfl) zsz rfl (hf 2 (by decide))
     exact fV rfl rfl (.bool true) (Eq.trans (ex_int .lss _ _ (.tmp 24) (.tmp 26) rfl .i64 ((i : Int)) (((PL).length : Int)) r24 r26 (.bool (decide (((i : Int)) < (((PL).length : Int))))) (fun _ => rfl)) (by rw [HLT.out])) hS uS
   intro f u4 hS hf hap
   have h0 : f 0 = .int .i64 ((i : Int)) := hf 0 (by decide)
   have h1 : f 1 = v2_7 := hf 1 (by decide)
   have h2 : f 2 = .int .i64 (((PL).length : Int)) := hf 2 (by decide)
   have h3 : f 3 = .bool true := hf 3 (by decide)
   clear hf hap
   clear zsz z9 z8
   subst ha0
   simp only [slotsTrp4t4, putAll, h0, h1, h2, h3, Act.put, List.setIfInBounds_toArray, List.set_cons_zero, List.set_cons_succ]
   clear h0 h1 h2 h3
   refine tl_nil ?_
   replace HO := Lib.hid (HO.out.keep hS)
   replace HX7 := Lib.hid (HX7.out.keepB hS)
   replace HX1 := Lib.hid (HX1.out.keepB hS)
   replace HX2 := Lib.hid (HX2.out.keepB hS)
   replace HX3 := Lib.hid (HX3.out.keepB hS)
   replace HN := Lib.hid (HN.out.keep hS)
   replace HB := Lib.hid (HB.out.trans (hS.mono HB.out.size))
   clear hS
   go_upto_region 6 with fail
   have HST : Hid (Below u4.heap.size u4 u4.drew) := Lib.hid (Below.refl _ _).drew
   replace HO := Lib.hid (HO.out.keep HST.out)
   replace HX7 := Lib.hid (HX7.out.keepB HST.out)
   replace HX1 := Lib.hid (HX1.out.keepB HST.out)
   replace HX2 := Lib.hid (HX2.out.keepB HST.out)
   replace HX3 := Lib.hid (HX3.out.keepB HST.out)
   replace HN := Lib.hid (HN.out.keep HST.out)
   replace HB := Lib.hid (HB.out.trans (HST.out.mono HB.out.size))
   clear HST
   obtain ⟨gg, cap, hgv, hgb, hgl, hel⟩ := HO.out.el hkl
   have HGV := Lib.hid hgv
   have HGB := Lib.hid hgb
   have HEL := Lib.hid hel
   obtain ⟨pa, pc2, hpv2, hcell⟩ := HN.out.el hlt
   rw [hpk] at hcell
   have HCL := Lib.hid hcell
   have HPV2 := Lib.hid hpv2
   clear hgv hgb hgl hel hcell hpv2 hpk
   refine wp_act (fun a0 ha0 => ?_)
   have zsz : a0.tmps.size = 49 := by rw [ha0]; rfl
   have z7 : a0.eval (.tmp 7) = .pointer (some ⟨b1_7, 0, none⟩) := by rw [ha0]; rfl
   have z8 : a0.eval (.tmp 8) = v2_7 := by rw [ha0]; rfl
   have z9 : a0.eval (.tmp 9) = .int .i64 ((i : Int)) := by rw [ha0]; rfl
   have z4 : a0.eval (.tmp 4) = .pointer (some ⟨g2, 0, none⟩) := by rw [ha0]; rfl
   have z2 : a0.eval (.tmp 2) = .int .i64 n := by rw [ha0]; rfl
   refine wrD [] slotsTrp6 waitTrp6 [Fct.val Flz 0 (.pointer (some ⟨b1_7, 1, none⟩)), Fct.val Flz 1 (v1_6), Fct.val Flz 2 (v2_7), Fct.val Flz 3 (.int .i64 ((i : Int))), Fct.val Flz 4 (.pointer (some (pa.add (i * 1)))), Fct.val Flz 5 (.int .i64 ((k : Int))), Fct.val Flz 6 (.pointer (some ⟨b1_7, 1, none⟩)), Fct.val Flz 7 (v1_6), Fct.val Flz 8 (v2_7), Fct.val Flz 9 (.int .i64 ((i : Int))), Fct.val Flz 10 (.pointer (some (pa.add (i * 1)))), Fct.val Flz 11 (.int .i64 ((k : Int))), Fct.val Flz 12 (.pointer (some ((⟨gg, 0, none⟩ : Addr).add (k * 65)))), Fct.val Flz 13 (aggC (((layTo fo PL y L i)[k]))), Fct.val Flz 14 (.agg (encU y).toArray), Fct.val Flz 15 (.int .i64 n), Fct.val Flz 16 (aggC (fo (((layTo fo PL y L i)[k])) y)), Fct.val Flz 17 (.pointer (some ((⟨gg, 0, none⟩ : Addr).add (k * 65))))] (fun w' => Below u4.drew.heap.size u4.drew w') _ 18 1 chkTrp6 (by kernel_rfl) (by kernel_rfl) (by kernel_rfl) (by kernel_rfl) (by decide) (Below.refl _ _) ?_ ?_
   ·refine lt_s (lt_s (lt_s (lt_s (lt_s (lt_s (lt_s (lt_s (lt_s (lt_s (lt_s (lt_s (lt_s (lt_s (lt_s (lt_s (lt_s (lt_s (lt_0) ?_) ?_) ?_) ?_) ?_) ?_) ?_) ?_) ?_) ?_) ?_) ?_) ?_) ?_) ?_) ?_) ?_) ?_
    ·intro f w1 hS hf aA hA
     have r7 : aA.eval (.tmp 7) = .pointer (some ⟨b1_7, 0, none⟩) := pO 7 hA (by kernel_rfl) z7
     exact fV rfl rfl (.pointer (some ⟨b1_7, 1, none⟩)) (fldT1 37 (Or.inr rfl) (.tmp 7) rfl b1_7 r7) hS uS
    ·intro f w1 hS hf aA hA
     have r30 : aA.eval (.tmp 30) = .pointer (some ⟨b1_7, 1, none⟩) := pA 30 0 hA sbTrp6 (by kernel_rfl) zsz rfl (hf 0 (by decide))
     exact fV rfl rfl (v1_6) (ex_load1 35 (.tmp 30) rfl ⟨b1_7, 1, none⟩ r30 (fun _ => by kernel_rfl) ((HX7.out.keepB hS).cellv rfl)) hS uS
    ·intro f w1 hS hf aA hA
     have r8 : aA.eval (.tmp 8) = v2_7 := pO 8 hA (by kernel_rfl) z8
     exact fV rfl rfl (v2_7) (ex_move (.tmp 8) rfl r8) hS uS
    ·intro f w1 hS hf aA hA
     have r9 : aA.eval (.tmp 9) = .int .i64 ((i : Int)) := pO 9 hA (by kernel_rfl) z9
     exact fV rfl rfl (.int .i64 ((i : Int))) (ex_move (.tmp 9) rfl r9) hS uS
    ·intro f w1 hS hf aA hA
     have r32 : aA.eval (.tmp 32) = v2_7 := pA 32 2 hA sbTrp6 (by kernel_rfl) zsz rfl (hf 2 (by decide))
     have r33 : aA.eval (.tmp 33) = .int .i64 ((i : Int)) := pA 33 3 hA sbTrp6 (by kernel_rfl) zsz rfl (hf 3 (by decide))
     exact fV rfl rfl (.pointer (some (pa.add (i * 1)))) (ex_indexS 57 3 (.tmp 32) (.tmp 33) rfl pa PL.length pc2 i 1 (by kernel_rfl) (fun _ => by kernel_rfl) (Eq.trans r32 HPV2.out) r33 hlt) hS uS
    ·intro f w1 hS hf aA hA
     have r34 : aA.eval (.tmp 34) = .pointer (some (pa.add (i * 1))) := pA 34 4 hA sbTrp6 (by kernel_rfl) zsz rfl (hf 4 (by decide))
     exact fV rfl rfl (.int .i64 ((k : Int))) (ex_load1 3 (.tmp 34) rfl (pa.add (i * 1)) r34 (fun _ => by kernel_rfl) (HCL.out w1 hS.block)) hS uS
    ·intro f w1 hS hf aA hA
     have r7 : aA.eval (.tmp 7) = .pointer (some ⟨b1_7, 0, none⟩) := pO 7 hA (by kernel_rfl) z7
     exact fV rfl rfl (.pointer (some ⟨b1_7, 1, none⟩)) (fldT1 37 (Or.inr rfl) (.tmp 7) rfl b1_7 r7) hS uS
    ·intro f w1 hS hf aA hA
     have r36 : aA.eval (.tmp 36) = .pointer (some ⟨b1_7, 1, none⟩) := pA 36 6 hA sbTrp6 (by kernel_rfl) zsz rfl (hf 6 (by decide))
     exact fV rfl rfl (v1_6) (ex_load1 35 (.tmp 36) rfl ⟨b1_7, 1, none⟩ r36 (fun _ => by kernel_rfl) ((HX7.out.keepB hS).cellv rfl)) hS uS
    ·intro f w1 hS hf aA hA
     have r8 : aA.eval (.tmp 8) = v2_7 := pO 8 hA (by kernel_rfl) z8
     exact fV rfl rfl (v2_7) (ex_move (.tmp 8) rfl r8) hS uS
    ·intro f w1 hS hf aA hA
     have r9 : aA.eval (.tmp 9) = .int .i64 ((i : Int)) := pO 9 hA (by kernel_rfl) z9
     exact fV rfl rfl (.int .i64 ((i : Int))) (ex_move (.tmp 9) rfl r9) hS uS
    ·intro f w1 hS hf aA hA
     have r38 : aA.eval (.tmp 38) = v2_7 := pA 38 8 hA sbTrp6 (by kernel_rfl) zsz rfl (hf 8 (by decide))
     have r39 : aA.eval (.tmp 39) = .int .i64 ((i : Int)) := pA 39 9 hA sbTrp6 (by kernel_rfl) zsz rfl (hf 9 (by decide))
     exact fV rfl rfl (.pointer (some (pa.add (i * 1)))) (ex_indexS 57 3 (.tmp 38) (.tmp 39) rfl pa PL.length pc2 i 1 (by kernel_rfl) (fun _ => by kernel_rfl) (Eq.trans r38 HPV2.out) r39 hlt) hS uS
    ·intro f w1 hS hf aA hA
     have r40 : aA.eval (.tmp 40) = .pointer (some (pa.add (i * 1))) := pA 40 10 hA sbTrp6 (by kernel_rfl) zsz rfl (hf 10 (by decide))
     exact fV rfl rfl (.int .i64 ((k : Int))) (ex_load1 3 (.tmp 40) rfl (pa.add (i * 1)) r40 (fun _ => by kernel_rfl) (HCL.out w1 hS.block)) hS uS
    ·intro f w1 hS hf aA hA
     have r37 : aA.eval (.tmp 37) = v1_6 := pA 37 7 hA sbTrp6 (by kernel_rfl) zsz rfl (hf 7 (by decide))
     have r41 : aA.eval (.tmp 41) = .int .i64 ((k : Int)) := pA 41 11 hA sbTrp6 (by kernel_rfl) zsz rfl (hf 11 (by decide))
     exact fV rfl rfl (.pointer (some ((⟨gg, 0, none⟩ : Addr).add (k * 65)))) (ex_indexS 35 73 (.tmp 37) (.tmp 41) rfl (⟨gg, 0, none⟩ : Addr) (layTo fo PL y L i).length cap k 65 (by kernel_rfl) (fun _ => by kernel_rfl) (Eq.trans r37 HGV.out) r41 hkl) hS uS
    ·intro f w1 hS hf aA hA
     have r42 : aA.eval (.tmp 42) = .pointer (some ((⟨gg, 0, none⟩ : Addr).add (k * 65))) := pA 42 12 hA sbTrp6 (by kernel_rfl) zsz rfl (hf 12 (by decide))
     exact fV rfl rfl (aggC (((layTo fo PL y L i)[k]))) (ex_loadR 73 (.tmp 42) rfl ((⟨gg, 0, none⟩ : Addr).add (k * 65)) r42 (fun _ => by kernel_rfl) (encC (((layTo fo PL y L i)[k]))) (by rw [encC_len]; kernel_rfl) (HEL.out w1 hS.block)) hS uS
    ·intro f w1 hS hf aA hA
     have r4 : aA.eval (.tmp 4) = .pointer (some ⟨g2, 0, none⟩) := pO 4 hA (by kernel_rfl) z4
     exact fV rfl rfl (.agg (encU y).toArray) (ex_loadR 52 (.tmp 4) rfl ⟨g2, 0, none⟩ r4 (fun _ => by kernel_rfl) (encU y) (by rw [encU_len]; kernel_rfl) ((HX2.out.keepB hS).part (encU y) 0 (encU_all' y))) hS uS
    ·intro f w1 hS hf aA hA
     have r2 : aA.eval (.tmp 2) = .int .i64 n := pO 2 hA (by kernel_rfl) z2
     exact fV rfl rfl (.int .i64 n) (ex_move (.tmp 2) rfl r2) hS uS
    ·intro f w1 hS hf aA hA
     have r43 : aA.eval (.tmp 43) = aggC (((layTo fo PL y L i)[k])) := pA 43 13 hA sbTrp6 (by kernel_rfl) zsz rfl (hf 13 (by decide))
     have r44 : aA.eval (.tmp 44) = .agg (encU y).toArray := pA 44 14 hA sbTrp6 (by kernel_rfl) zsz rfl (hf 14 (by decide))
     have r45 : aA.eval (.tmp 45) = .int .i64 n := pA 45 15 hA sbTrp6 (by kernel_rfl) zsz rfl (hf 15 (by decide))
     exact fC rfl rfl 44 #[(.tmp 43), (.tmp 44), (.tmp 45)] _ rfl #[aggC (((layTo fo PL y L i)[k])), .agg (encU y).toArray, .int .i64 n] (mp3 r43 r44 r45) (fun w => by kernel_rfl) _ (rput_as (((layTo fo PL y L i)[k])) y n fo HFO.out w1) hS (fun _ _ h => uS.trans h)
    ·intro f w1 hS hf aA hA
     have r31 : aA.eval (.tmp 31) = v1_6 := pA 31 1 hA sbTrp6 (by kernel_rfl) zsz rfl (hf 1 (by decide))
     have r35 : aA.eval (.tmp 35) = .int .i64 ((k : Int)) := pA 35 5 hA sbTrp6 (by kernel_rfl) zsz rfl (hf 5 (by decide))
     exact fV rfl rfl (.pointer (some ((⟨gg, 0, none⟩ : Addr).add (k * 65)))) (ex_indexS 35 73 (.tmp 31) (.tmp 35) rfl (⟨gg, 0, none⟩ : Addr) (layTo fo PL y L i).length cap k 65 (by kernel_rfl) (fun _ => by kernel_rfl) (Eq.trans r31 HGV.out) r35 hkl) hS uS
   intro f u6 hS hf hap
   have h0 : f 0 = .pointer (some ⟨b1_7, 1, none⟩) := hf 0 (by decide)
   have h1 : f 1 = v1_6 := hf 1 (by decide)
   have h2 : f 2 = v2_7 := hf 2 (by decide)
   have h3 : f 3 = .int .i64 ((i : Int)) := hf 3 (by decide)
   have h4 : f 4 = .pointer (some (pa.add (i * 1))) := hf 4 (by decide)
   have h5 : f 5 = .int .i64 ((k : Int)) := hf 5 (by decide)
   have h6 : f 6 = .pointer (some ⟨b1_7, 1, none⟩) := hf 6 (by decide)
   have h7 : f 7 = v1_6 := hf 7 (by decide)
   have h8 : f 8 = v2_7 := hf 8 (by decide)
   have h9 : f 9 = .int .i64 ((i : Int)) := hf 9 (by decide)
   have h10 : f 10 = .pointer (some (pa.add (i * 1))) := hf 10 (by decide)
   have h11 : f 11 = .int .i64 ((k : Int)) := hf 11 (by decide)
   have h12 : f 12 = .pointer (some ((⟨gg, 0, none⟩ : Addr).add (k * 65))) := hf 12 (by decide)
   have h13 : f 13 = aggC (((layTo fo PL y L i)[k])) := hf 13 (by decide)
   have h14 : f 14 = .agg (encU y).toArray := hf 14 (by decide)
   have h15 : f 15 = .int .i64 n := hf 15 (by decide)
   have h16 : f 16 = aggC (fo (((layTo fo PL y L i)[k])) y) := hf 16 (by decide)
   have h17 : f 17 = .pointer (some ((⟨gg, 0, none⟩ : Addr).add (k * 65))) := hf 17 (by decide)
   clear hf hap
   clear zsz z7 z8 z9 z4 z2
   subst ha0
   simp only [slotsTrp6, putAll, h0, h1, h2, h3, h4, h5, h6, h7, h8, h9, h10, h11, h12, h13, h14, h15, h16, h17, Act.put, List.setIfInBounds_toArray, List.set_cons_zero, List.set_cons_succ]
   clear h0 h1 h2 h3 h4 h5 h6 h7 h8 h9 h10 h11 h12 h13 h14 h15 h16 h17
   have HO8 := Lib.hid (HO.out.keep hS)
   have HX78 := Lib.hid (HX7.out.keepB hS)
   have HX18 := Lib.hid (HX1.out.keepB hS)
   have HX28 := Lib.hid (HX2.out.keepB hS)
   have HX38 := Lib.hid (HX3.out.keepB hS)
   have HN8 := Lib.hid (HN.out.keep hS)
   have HB8 := Lib.hid (HB.out.trans (hS.mono HB.out.size))
   clear HO HX7 HX1 HX2 HX3 HN HB hS
   have HOB : Hid (Value.ownBlock v1_6 = some gg) := Lib.hid (by rw [HGV.out]; rfl)
   refine tl_step rfl rfl (fun K hK => wp_store_ce 73 (by kernel_rfl) (.tmp 47) (.tmp 46) rfl w3.drew.heap.size 73 v1_6 _ HO8.out gg cap k HGV.out hkl rfl _ rfl (fun w9 hR hbl hgr => hK _ _ ?_))
   have HO9 := Lib.hid hR
   have HG9 : Hid (Grw u6 w9 (some gg)) := Lib.hid hgr
   have HB9 := Lib.hid (HB8.out.trans (hbl _ (Nat.le_trans HBB.out HGB.out)))
   clear hR hbl hgr
   refine tl_nilN ?_
   try simp only [Act.put]
   go_wp2_with fail
   go_roundw
   case rel =>
    have hne : ∀ {g : Nat} {T : TypeId} {l : List Value}, Has u6 g T l → T ≠ 73 → ∀ k, some gg = some k → k ≠ g := fun hg hT k hk => by
     obtain rfl := Option.some.inj hk
     exact HO8.out.ne hg hT _ HOB.out
    exact ⟨i + 1, by omega, by go_num, by rw [HNX.out]; exact HO9.out, HG9.out.has HX78.out (hne HX78.out (by decide)), HG9.out.has HX18.out (hne HX18.out (by decide)), HG9.out.has HX28.out (hne HX28.out (by decide)), HG9.out.has HX38.out (hne HX38.out (by decide)), HN8.out.off HG9.out (fun k hk => by obtain rfl := Option.some.inj hk; exact HRL.out _ HOB.out), HB9.out⟩
   case measure => simp [intOf]; omega
  ·obtain rfl : i = PL.length := by omega
   have HLT : Hid (decide (((PL.length : Int)) < (((PL).length : Int))) = false) := Lib.hid (decide_eq_false (by omega))
   rw [HALL.out] at HO
   go_upto_region 4 with fail
   refine wp_act (fun a0 ha0 => ?_)
   have zsz : a0.tmps.size = 49 := by rw [ha0]; rfl
   have z9 : a0.eval (.tmp 9) = .int .i64 ((PL.length : Int)) := by rw [ha0]; rfl
   have z8 : a0.eval (.tmp 8) = v2_7 := by rw [ha0]; rfl
   refine wrO [] slotsTrp4f4 waitTrp4f4 [Fct.val Flz 0 (.int .i64 ((PL.length : Int))), Fct.val Flz 1 (v2_7), Fct.val Flz 2 (.int .i64 (((PL).length : Int))), Fct.val Flz 3 (.bool false)] (fun w' => Below wr.heap.size wr w') _ 4 0 chkTrp4f4 (by kernel_rfl) (by kernel_rfl) (by kernel_rfl) (by decide) (Below.refl _ _) ?_ ?_
   ·refine lt_s (lt_s (lt_s (lt_s (lt_0) ?_) ?_) ?_) ?_
    ·intro f w1 hS hf aA hA
     have r9 : aA.eval (.tmp 9) = .int .i64 ((PL.length : Int)) := pO 9 hA (by kernel_rfl) z9
     exact fV rfl rfl (.int .i64 ((PL.length : Int))) (ex_move (.tmp 9) rfl r9) hS uS
    ·intro f w1 hS hf aA hA
     have r8 : aA.eval (.tmp 8) = v2_7 := pO 8 hA (by kernel_rfl) z8
     exact fV rfl rfl (v2_7) (ex_move (.tmp 8) rfl r8) hS uS
    ·intro f w1 hS hf aA hA
     have r25 : aA.eval (.tmp 25) = v2_7 := pA 25 1 hA sbTrp4f4 (by kernel_rfl) zsz rfl (hf 1 (by decide))
     obtain ⟨q9, c9, hv9, _⟩ := (HN.out.keep hS).len
     exact fV rfl rfl (.int .i64 (((PL).length : Int))) (ex_len 57 3 (.tmp 25) rfl (by kernel_rfl) q9 (PL).length c9 (r25.trans hv9)) hS uS
    ·intro f w1 hS hf aA hA
     have r24 : aA.eval (.tmp 24) = .int .i64 ((PL.length : Int)) := pA 24 0 hA sbTrp4f4 (by kernel_rfl) zsz rfl (hf 0 (by decide))
     have r26 : aA.eval (.tmp 26) = .int .i64 (((PL).length : Int)) := pA 26 2 hA sbTrp4f4 (by kernel_rfl) zsz rfl (hf 2 (by decide))
     exact fV rfl rfl (.bool false) (Eq.trans (ex_int .lss _ _ (.tmp 24) (.tmp 26) rfl .i64 ((PL.length : Int)) (((PL).length : Int)) r24 r26 (.bool (decide (((PL.length : Int)) < (((PL).length : Int))))) (fun _ => rfl)) (by rw [HLT.out])) hS uS
   intro f u4 hS hf hap
   have h0 : f 0 = .int .i64 ((PL.length : Int)) := hf 0 (by decide)
   have h1 : f 1 = v2_7 := hf 1 (by decide)
   have h2 : f 2 = .int .i64 (((PL).length : Int)) := hf 2 (by decide)
   have h3 : f 3 = .bool false := hf 3 (by decide)
   clear hf hap
   clear zsz z9 z8
   subst ha0
   simp only [slotsTrp4f4, putAll, h0, h1, h2, h3, Act.put, List.setIfInBounds_toArray, List.set_cons_zero, List.set_cons_succ]
   clear h0 h1 h2 h3
   refine tl_nil ?_
   replace HO := Lib.hid (HO.out.keep hS)
   replace HX7 := Lib.hid (HX7.out.keepB hS)
   replace HX1 := Lib.hid (HX1.out.keepB hS)
   replace HX2 := Lib.hid (HX2.out.keepB hS)
   replace HX3 := Lib.hid (HX3.out.keepB hS)
   replace HN := Lib.hid (HN.out.keep hS)
   replace HB := Lib.hid (HB.out.trans (hS.mono HB.out.size))
   clear hS
   have HNE_b1_7_g3 : Hid (b1_7 ≠ g3) := HNE37
   have HNE_b1_7_g1 : Hid (b1_7 ≠ g1) := HNE17
   clear HN
   go_upto_region 7 with fail
   refine wp_act (fun a0 ha0 => ?_)
   have zsz : a0.tmps.size = 49 := by rw [ha0]; rfl
   have z7 : a0.eval (.tmp 7) = .pointer (some ⟨b1_7, 0, none⟩) := by rw [ha0]; rfl
   refine wrO [] slotsTrp4f7 waitTrp4f7 [Fct.val Flz 0 (.agg #[.int .u64 (s : Int), v1_6])] (fun w' => Below u4.heap.size u4 w') _ 1 1 chkTrp4f7 (by kernel_rfl) (by kernel_rfl) (by kernel_rfl) (by decide) (Below.refl _ _) ?_ ?_
   ·refine lt_s (lt_0) ?_
    ·intro f w1 hS hf aA hA
     have r7 : aA.eval (.tmp 7) = .pointer (some ⟨b1_7, 0, none⟩) := pO 7 hA (by kernel_rfl) z7
     exact fV rfl rfl (.agg #[.int .u64 (s : Int), v1_6]) (ex_loadR 37 (.tmp 7) rfl ⟨b1_7, 0, none⟩ r7 (fun _ => by kernel_rfl) [.int .u64 (s : Int), v1_6] (by kernel_rfl) ((HX7.out.keepB hS).part [.int .u64 (s : Int), v1_6] 0 (fun j u hu => by rw [Nat.zero_add]; exact hu))) hS uS
   intro f u7 hS hf hap
   have h0 : f 0 = .agg #[.int .u64 (s : Int), v1_6] := hf 0 (by decide)
   clear hf hap
   clear zsz z7
   subst ha0
   simp only [slotsTrp4f7, putAll, h0, Act.put, List.setIfInBounds_toArray, List.set_cons_zero, List.set_cons_succ]
   clear h0
   have hBS := HB.out.trans (hS.mono HB.out.size)
   replace HO := Lib.hid (HO.out.keep hS)
   replace HX7 := Lib.hid (HX7.out.keepB hS)
   replace HX1 := Lib.hid (HX1.out.keepB hS)
   replace HX2 := Lib.hid (HX2.out.keepB hS)
   replace HX3 := Lib.hid (HX3.out.keepB hS)
   clear hS
   refine tl_store rfl (by kernel_rfl) 37 (.tmp 6) (.tmp 48) rfl g3 ([.int .u64 (s : Int), v1_6]) _ rfl rfl _ HX3.out (by kernel_rfl) rfl (tb_ones _ HO.out.one) ?_
   intro u8 hp hbl hot
   replace HO := Lib.hid (HO.out.hotb HX3.out ⟨_, _, _, rfl⟩ (by decide) (hbl 0 (Nat.zero_le _)).size hot)
   replace HX7 : Hid (Has u8 b1_7 37 ([.int .u64 (s : Int), v1_6])) := Lib.hid ((hot _ (HNE_b1_7_g3.out)).trans HX7.out)
   replace HX1 : Hid (Has u8 g1 37 ([.int .u64 (s : Int), v])) := Lib.hid ((hot _ (HNE_g1_g3.out)).trans HX1.out)
   replace HX2 : Hid (Has u8 g2 52 (encU y)) := Lib.hid ((hot _ (Has.apartT HX2.out HX3.out (by decide))).trans HX2.out)
   replace HX3 : Hid (Has u8 g3 37 ([.int .u64 (s : Int), v1_6])) := Lib.hid hp
   replace hBS := hBS.trans (hbl _ HGg3.out)
   clear hp hbl hot
   try simp only [Act.put]
   refine tl_nil ?_
   replace HB := Lib.hid hBS
   clear hBS
   go_wp2_with fail
   (try simp only [Exit.inBlock, Exit.then])
   refine bodyPost_ret (v := .agg #[.int .u64 (s : Int), v1_6]) ?_ rfl ⟨⟨_, rfl, v1_6, rfl, HO.out.cs⟩, HB.out⟩
   exact results_cell_row rfl _ _ g3 37 _ (0, 0) _ rfl HX3.out Tryd.underlying37 rfl (by kernel_rfl)
theorem rputT_any (s : Nat) (y : Su) (n : Int) (v : Value) (L : List Ce) (fo : Ce → Su → Ce) (w : World) (hs : s < 18446744073709551616) (hf : ∀ c y, withC c n y (chkS y) = fo c y) (hM : L.length ≤ 1000000) (hC : Cs w v L) : Calls Tryd.prog 22 #[.agg #[.int .u64 (s : Int), v], .agg (encU y).toArray, .int .i64 n] w fun e w' => (∃ v, e = .returned v ∧ ∃ x, v = .agg #[.int .u64 (s : Int), x] ∧ Cs w' x (layT fo s y L)) ∧ Below w.heap.size w w' := rputT_b s y n v L fo w w (Below.refl _ _) hs hf hM hC
end Go.Proofs.YtepeloenijlnhaaDoor
/- Contract: the document's own TableOf. Conditions: a seed of 64 bits; at most 10^4 sums. -/
namespace Go.Proofs.YtepeloenijlnhaaDoor
open Go.RowKit
theorem newR_t (s : Nat) (n : Int) (m : Nat) (hg : goodN n = true) (hm : n = m) (w : World) : Calls Tryd.prog 39 #[.int .u64 (s : Int), .int .i64 n] w fun e w' => (∃ v, e = .returned v ∧ ∃ x, v = .tuple #[.agg #[.int .u64 (s : Int), x], .int .i64 0] ∧ Cs w' x (List.replicate m zC)) ∧ Below w.heap.size w w' := by
 have e : newT s n = (s, List.replicate m zC, 0) := by unfold newT; rw [if_pos hg, hm]; rfl
 refine Calls.mono (newR_any s n w) fun e' w' ⟨⟨v, h1, x, h2, h3⟩, h4⟩ => ?_
 rw [e] at h2 h3
 exact ⟨⟨v, h1, x, h2, h3.cs⟩, h4⟩
theorem newR_f (s : Nat) (n : Int) (hg : goodN n = false) (w : World) : Calls Tryd.prog 39 #[.int .u64 (s : Int), .int .i64 n] w fun e w' => (∃ v, e = .returned v ∧ ∃ x, v = .tuple #[.agg #[.int .u64 0, x], .int .i64 1] ∧ Cs w' x []) ∧ Below w.heap.size w w' := by
 have e : newT s n = (0, [], 1) := by unfold newT; rw [hg]; rfl
 refine Calls.mono (newR_any s n w) fun e' w' ⟨⟨v, h1, x, h2, h3⟩, h4⟩ => ?_
 rw [e] at h2 h3
 exact ⟨⟨v, h1, x, h2, h3.cs⟩, h4⟩
def waitTrff1 (i : Nat) : List Nat := ([[], [], [0, 1], [2], [3], [3], [], [0, 1, 2, 3, 4, 5, 6], [0, 1, 2, 3, 4, 5, 6, 7]] : List (List Nat)).getD i []
def slotsTrff1 : List (Nat × Nat) := [(12, 0), (13, 1), (14, 2), (11, 3), (15, 4), (16, 5), (8, 6), (9, 8)]
theorem sbTrff1 : slotsB slotsTrff1 = true := by kernel_rfl
theorem chkTrff1 : flwO slotsTrff1 waitTrff1 7 (regOf Tryd.f19.body 1) = true := by kernel_rfl
def waitTrffet4 (i : Nat) : List Nat := ([[], [], [1], [0, 2], [3], [4], [4, 5], [4, 6]] : List (List Nat)).getD i []
def slotsTrffet4 : List (Nat × Nat) := [(19, 0), (20, 1), (21, 2), (22, 3), (23, 4), (24, 5), (25, 6), (26, 7)]
theorem sbTrffet4 : slotsB slotsTrffet4 = true := by kernel_rfl
theorem chkTrffet4 : flwO slotsTrffet4 waitTrffet4 8 (regOf Tryd.f19.body 4) = true := by kernel_rfl
def waitTrffet7 (i : Nat) : List Nat := ([[], [], [0, 1], [0, 1, 2]] : List (List Nat)).getD i []
def slotsTrffet7 : List (Nat × Nat) := [(35, 0), (36, 1), (7, 3)]
theorem sbTrffet7 : slotsB slotsTrffet7 = true := by kernel_rfl
theorem chkTrffet7 : flwO slotsTrffet7 waitTrffet7 2 (regOf Tryd.f19.body 7) = true := by kernel_rfl
def waitTrffef4 (i : Nat) : List Nat := ([[], [], [1], [0, 2], [3], [4], [4], [4, 6]] : List (List Nat)).getD i []
def slotsTrffef4 : List (Nat × Nat) := [(19, 0), (20, 1), (21, 2), (22, 3), (23, 4), (24, 5), (25, 6), (26, 7)]
theorem sbTrffef4 : slotsB slotsTrffef4 = true := by kernel_rfl
theorem chkTrffef4 : flwO slotsTrffef4 waitTrffef4 8 (regOf Tryd.f19.body 4) = true := by kernel_rfl
def waitTrffef7 (i : Nat) : List Nat := ([[], [], [0, 1], [0, 1, 2]] : List (List Nat)).getD i []
def slotsTrffef7 : List (Nat × Nat) := [(35, 0), (36, 1), (7, 3)]
theorem sbTrffef7 : slotsB slotsTrffef7 = true := by kernel_rfl
theorem chkTrffef7 : flwO slotsTrffef7 waitTrffef7 2 (regOf Tryd.f19.body 7) = true := by kernel_rfl
def waitTrft1 (i : Nat) : List Nat := ([[], [], [0, 1], [2], [3], [3], [], [0, 1, 2, 3, 4, 5, 6], [0, 1, 2, 3, 4, 5, 6, 7]] : List (List Nat)).getD i []
def slotsTrft1 : List (Nat × Nat) := [(12, 0), (13, 1), (14, 2), (11, 3), (15, 4), (16, 5), (8, 6), (9, 8)]
theorem sbTrft1 : slotsB slotsTrft1 = true := by kernel_rfl
theorem chkTrft1 : flwO slotsTrft1 waitTrft1 7 (regOf Tryd.f19.body 1) = true := by kernel_rfl
def waitTrfl4 (i : Nat) : List Nat := ([[], [], [1], [0, 2], [3], [4], [4, 5], [4, 6]] : List (List Nat)).getD i []
def slotsTrfl4 : List (Nat × Nat) := [(19, 0), (20, 1), (21, 2), (22, 3), (23, 4), (24, 5), (25, 6), (26, 7)]
theorem sbTrfl4 : slotsB slotsTrfl4 = true := by kernel_rfl
theorem chkTrfl4 : flwO slotsTrfl4 waitTrfl4 8 (regOf Tryd.f19.body 4) = true := by kernel_rfl
def waitTrf6 (i : Nat) : List Nat := ([[], [], [], [1, 2], [3], [0, 4], [0, 1, 2, 3, 4, 5]] : List (List Nat)).getD i []
def slotsTrf6 : List (Nat × Nat) := [(29, 0), (30, 1), (31, 2), (32, 3), (33, 4), (34, 5)]
theorem sbTrf6 : slotsB slotsTrf6 = true := by kernel_rfl
theorem chkTrf6 : flwB slotsTrf6 waitTrf6 6 (regOf Tryd.f19.body 6) = true := by kernel_rfl
def waitTrftef4 (i : Nat) : List Nat := ([[], [], [1], [0, 2], [3], [4], [4], [4, 6]] : List (List Nat)).getD i []
def slotsTrftef4 : List (Nat × Nat) := [(19, 0), (20, 1), (21, 2), (22, 3), (23, 4), (24, 5), (25, 6), (26, 7)]
theorem sbTrftef4 : slotsB slotsTrftef4 = true := by kernel_rfl
theorem chkTrftef4 : flwO slotsTrftef4 waitTrftef4 8 (regOf Tryd.f19.body 4) = true := by kernel_rfl
def waitTrftef7 (i : Nat) : List Nat := ([[], [], [0, 1], [0, 1, 2]] : List (List Nat)).getD i []
def slotsTrftef7 : List (Nat × Nat) := [(35, 0), (36, 1), (7, 3)]
theorem sbTrftef7 : slotsB slotsTrftef7 = true := by kernel_rfl
theorem chkTrftef7 : flwO slotsTrftef7 waitTrftef7 2 (regOf Tryd.f19.body 7) = true := by kernel_rfl
set_option maxHeartbeats 16000000 in
set_option maxRecDepth 100000 in
theorem rofT_b (s : Nat) (n : Int) (v : Value) (A : List Su) (w w0 : World) (hB : Below w.heap.size w w0) (hs : s < 18446744073709551616) (hn : A.length ≤ 10000) (hU : Us w v A) : Calls Tryd.prog 19 #[.int .u64 (s : Int), .int .i64 n, v] w0 fun e w' => (∃ v, e = .returned v ∧ ∃ x, v = .tuple #[.agg #[.int .u64 ((ofT s n A).1 : Int), x], .int .i64 (ofT s n A).2.2] ∧ Cs w' x (ofT s n A).2.1) ∧ Below w.heap.size w w' := by
 have HOF : Hid (ofT s n A = if goodN n = true then (s, layA putC s (srt A) (List.replicate n.toNat zC), 0) else (0, [], 1)) := Lib.hid rfl
 go_enter Tryd.func19, Tryd.ntmps19
 have HB := Lib.hid hB
 clear hB
 have HU := Lib.hid hU
 have HSD := Lib.hid hs
 have HNA := Lib.hid hn
 clear hU hs hn
 go_upto_region 0 with fail
 refine wp_region_lit ?_
 try simp only [Act.put, List.setIfInBounds_toArray, List.set_cons_zero, List.set_cons_succ]
 refine lp_step rfl (fun K hK => wp_alloc_row 37 rfl (.agg #[.int .u64 0, .slice none 0 0]) (fun w => by kernel_rfl) (hK _ _ ?_))
 try simp only [Act.put, List.setIfInBounds_toArray, List.set_cons_zero, List.set_cons_succ]
 show wpList _ _ _ _ _ (w0.alloc (.cells (([.int .u64 0, .slice none 0 0] : List Value)).toArray 37))
 have HST : Hid (Below w0.heap.size w0 (w0.alloc (.cells (([.int .u64 0, .slice none 0 0] : List Value)).toArray 37))) := Lib.hid ((Below.refl _ _).alloc (Nat.le_refl _) _)
 have HX1 : Hid (Has (w0.alloc (.cells (([.int .u64 0, .slice none 0 0] : List Value)).toArray 37)) w0.heap.size 37 ([.int .u64 0, .slice none 0 0])) := Lib.hid (Has.made' _ _ _ _ rfl)
 have HGg1 : Hid (w.heap.size ≤ w0.heap.size) := Lib.hid HB.out.size
 replace HB := Lib.hid (HB.out.trans (HST.out.mono HB.out.size))
 clear HST
 generalize w0.alloc (.cells (([.int .u64 0, .slice none 0 0] : List Value)).toArray 37) = w1 at *
 generalize w0.heap.size = g1 at *
 refine lp_pure (v := .int .i64 0) rfl (ex_assign _ rfl rfl) ?_
 try simp only [Act.put, List.setIfInBounds_toArray, List.set_cons_zero, List.set_cons_succ]
 refine wpList_nil ?_
 obtain ⟨y1, hz1⟩ : ∃ z, z = w1 := ⟨_, rfl⟩
 subst hz1
 obtain ⟨gd, hgd⟩ : ∃ gd, goodN n = gd := ⟨_, rfl⟩
 have HGD := Lib.hid hgd
 clear hgd
 cases gd
 ·go_upto_region 1 with fail
  refine wp_act (fun a0 ha0 => ?_)
  have zsz : a0.tmps.size = 37 := by rw [ha0]; rfl
  have z0 : a0.eval (.tmp 0) = .int .u64 (s : Int) := by rw [ha0]; rfl
  have z1 : a0.eval (.tmp 1) = .int .i64 n := by rw [ha0]; rfl
  refine wrO [] slotsTrff1 waitTrff1 [Fct.val Flz 0 (.int .u64 (s : Int)), Fct.val Flz 1 (.int .i64 n), Fct.obj 2 (fun v w => ∃ zz, v = .tuple #[.agg #[.int .u64 0, zz], .int .i64 1] ∧ Cs w zz (([] : List Ce))) (fun _ _ _ ⟨zz, a, b⟩ he => ⟨zz, a, b.flz he⟩), Fct.obj 3 (fun v w => ∃ zz, v = .tuple #[.agg #[.int .u64 0, zz], .int .i64 1] ∧ Cs w zz (([] : List Ce))) (fun _ _ _ ⟨zz, a, b⟩ he => ⟨zz, a, b.flz he⟩), Fct.obj 4 (fun v w => ∃ zz, v = .agg #[.int .u64 0, zz] ∧ Cs w zz (([] : List Ce))) (fun _ _ _ ⟨zz, a, b⟩ he => ⟨zz, a, b.flz he⟩), Fct.val Flz 5 (.int .i64 1), Fct.obj 6 (fun v w => ∃ g, v = .pointer (some ⟨g, 0, none⟩) ∧ y1.heap.size ≤ g ∧ Has w g 37 ([.int .u64 0, .slice none 0 0])) (fun _ _ _ ⟨g, a, b, c⟩ he => ⟨g, a, b, c.flz he (by decide)⟩)] (fun w' => Below y1.heap.size y1 w') _ 7 2 chkTrff1 (by kernel_rfl) (by kernel_rfl) (by kernel_rfl) (by decide) (Below.refl _ _) ?_ ?_
  ·refine lt_s (lt_s (lt_s (lt_s (lt_s (lt_s (lt_s (lt_0) ?_) ?_) ?_) ?_) ?_) ?_) ?_
   ·intro f w1 hS hf aA hA
    have r0 : aA.eval (.tmp 0) = .int .u64 (s : Int) := pO 0 hA (by kernel_rfl) z0
    exact fV rfl rfl (.int .u64 (s : Int)) (ex_move (.tmp 0) rfl r0) hS uS
   ·intro f w1 hS hf aA hA
    have r1 : aA.eval (.tmp 1) = .int .i64 n := pO 1 hA (by kernel_rfl) z1
    exact fV rfl rfl (.int .i64 n) (ex_move (.tmp 1) rfl r1) hS uS
   ·intro f w1 hS hf aA hA
    have r12 : aA.eval (.tmp 12) = .int .u64 (s : Int) := pA 12 0 hA sbTrff1 (by kernel_rfl) zsz rfl (hf 0 (by decide))
    have r13 : aA.eval (.tmp 13) = .int .i64 n := pA 13 1 hA sbTrff1 (by kernel_rfl) zsz rfl (hf 1 (by decide))
    exact fC rfl rfl 39 #[(.tmp 12), (.tmp 13)] _ rfl #[.int .u64 (s : Int), .int .i64 n] (mp2 r12 r13) (fun w => by kernel_rfl) _ (newR_f s n HGD.out w1) hS (fun _ _ ⟨zz, a, b⟩ => ⟨zz, uS.trans a, b⟩)
   ·intro f w1 hS hf aA hA
    obtain ⟨x14, hx14, hr14⟩ := hf 2 (by decide)
    have e14 : aA.eval (.tmp 14) = .tuple #[.agg #[.int .u64 0, x14], .int .i64 1] := pA 14 2 hA sbTrff1 (by kernel_rfl) zsz rfl hx14
    exact flw_val rfl rfl (.tuple #[.agg #[.int .u64 0, x14], .int .i64 1]) (ex_move (.tmp 14) rfl e14) hS (Flz.refl _) ⟨x14, uS, hr14⟩
   ·intro f w1 hS hf aA hA
    obtain ⟨x11, hx11, hr11⟩ := hf 3 (by decide)
    have e11 : aA.eval (.tmp 11) = .tuple #[.agg #[.int .u64 0, x11], .int .i64 1] := pA 11 3 hA sbTrff1 (by kernel_rfl) zsz rfl hx11
    exact flw_val rfl rfl (.agg #[.int .u64 0, x11]) (ex_extract (.tmp 11) 0 rfl e11 rfl) hS (Flz.refl _) ⟨x11, uS, hr11⟩
   ·intro f w1 hS hf aA hA
    obtain ⟨x11, hx11, hr11⟩ := hf 3 (by decide)
    have e11 : aA.eval (.tmp 11) = .tuple #[.agg #[.int .u64 0, x11], .int .i64 1] := pA 11 3 hA sbTrff1 (by kernel_rfl) zsz rfl hx11
    exact fV rfl rfl (.int .i64 1) (ex_extract (.tmp 11) 1 rfl e11 rfl) hS uS
   ·intro f w1 hS hf aA hA
    exact flw_wp rfl rfl (fun K hK => wp_alloc_row 37 rfl (.agg #[.int .u64 0, .slice none 0 0]) (fun w => by kernel_rfl) (hK _ _ (hS.alloc hS.size _) (Flz.al _ _) ⟨_, uS, hS.size, Has.made' _ _ _ _ rfl⟩))
  intro f u1 hS hf hap
  have h0 : f 0 = .int .u64 (s : Int) := hf 0 (by decide)
  have h1 : f 1 = .int .i64 n := hf 1 (by decide)
  obtain ⟨v1_2, h2, -⟩ := hf 2 (by decide)
  obtain ⟨v1_3, h3, -⟩ := hf 3 (by decide)
  obtain ⟨v1_4, h4, hu4⟩ := hf 4 (by decide)
  have HU1_4 := Lib.hid hu4
  clear hu4
  have h5 : f 5 = .int .i64 1 := hf 5 (by decide)
  have HG1L : Hid (g1 < y1.heap.size) := Lib.hid HX1.out.lt
  obtain ⟨b1_6, h6, hgb6, hhb6⟩ := hf 6 (by decide)
  clear hf hap
  clear zsz z0 z1
  subst ha0
  simp only [slotsTrff1, putAll, h0, h1, h2, h3, h4, h5, h6, Act.put, List.setIfInBounds_toArray, List.set_cons_zero, List.set_cons_succ]
  clear h0 h1 h2 h3 h4 h5 h6
  refine tl_store rfl (by kernel_rfl) 37 (.tmp 8) (.tmp 15) rfl b1_6 ([.int .u64 0, v1_4]) _ rfl rfl _ hhb6 (by kernel_rfl) rfl (tb_ones _ HU1_4.out.one) ?_
  intro u2 hp6 hbl hot
  replace hS := hS.trans (hbl _ hgb6)
  replace HU1_4 := Lib.hid (HU1_4.out.hotb hhb6 ⟨_, _, _, rfl⟩ (by decide) (hbl 0 (Nat.zero_le _)).size hot)
  clear hbl hot hhb6
  try simp only [Act.put]
  refine tl_pure rfl (by kernel_rfl) (.int .i64 1) (ex_assign (.tmp 16) rfl rfl) ?_
  try simp only [Act.put, List.setIfInBounds_toArray, List.set_cons_zero, List.set_cons_succ]
  refine tl_nil ?_
  replace HX1 := Lib.hid (HX1.out.keepB hS)
  have HBW := Lib.hid HB.out.size
  replace HB := Lib.hid (HB.out.trans (hS.mono HB.out.size))
  clear hS
  have HNE16 : Hid (b1_6 ≠ g1) := Lib.hid (by have := HG1L.out; omega)
  have HGb1_6 : Hid (w.heap.size ≤ b1_6) := Lib.hid (Nat.le_trans HBW.out hgb6)
  have HX_b1_6 : Hid (Has u2 b1_6 37 ([.int .u64 0, v1_4])) := Lib.hid hp6
  clear hp6 hgb6
  clear HBW
  have HRO := Lib.hid (us_rof (HU.out.keep HB.out) HNA.out)
  go_upto_region 3 with ((with_reducible refine Calls.mono HRO.out ?_); rintro e u3 ⟨⟨vs, rfl, hs3⟩, hb3⟩; have HS := Lib.hid hs3; have HB3 := Lib.hid hb3; clear hs3 hb3)
  replace HX1 := Lib.hid (HX1.out.keepB HB3.out)
  replace HX_b1_6 := Lib.hid (HX_b1_6.out.keepB HB3.out)
  replace HU1_4 := Lib.hid (HU1_4.out.keep HB3.out)
  replace HB := Lib.hid (HB.out.trans (HB3.out.mono HB.out.size))
  clear HB3 HRO
  have hSl : (srt A).length ≤ 1000000 := by have := len_srt_le A; have := HNA.out; omega
  have HFIN : Hid (ofT s n A = (0, [], 1)) := Lib.hid (by rw [HOF.out, HGD.out]; rfl)
  generalize srt A = S at *
  go_wp2_with fail
  go_loopw [10] (fun vi wr => ∃ i : Nat, i ≤ S.length ∧ i = 0 ∧ vi = .int .i64 i ∧ (∃ z, Has wr b1_6 37 [.int .u64 0, z] ∧ Cs wr z (([] : List Ce))) ∧ Us wr vs S ∧ Has wr g1 37 [.int .u64 0, .slice none 0 0] ∧ Below w.heap.size w wr) (fun vi _ => S.length - (intOf vi).toNat)
  case atStart => exact ⟨0, by omega, rfl, rfl, ⟨_, HX_b1_6.out, HU1_4.out⟩, HS.out, HX1.out, HB.out⟩
  case round =>
   clear HU1_4 HX_b1_6 HX1 HS HB
   rename_i wr
   obtain ⟨i, hi, hi0, rfl, ⟨vz, hx6, hz⟩, hs, hx1, hB⟩ := hrel
   have HX_b1_6 := Lib.hid hx6
   have HZ := Lib.hid hz
   have HS := Lib.hid hs
   have HX1 := Lib.hid hx1
   have HB := Lib.hid hB
   clear hx6 hz hs hx1 hB
   by_cases hlt : i < S.length
   ·have HLT : Hid (decide (((i : Int)) < (((S).length : Int))) = true) := Lib.hid (decide_eq_true (by omega))
    go_upto_region 4 with fail
    refine wp_act (fun a0 ha0 => ?_)
    have zsz : a0.tmps.size = 37 := by rw [ha0]; rfl
    have z10 : a0.eval (.tmp 10) = .int .i64 ((i : Int)) := by rw [ha0]; rfl
    have z2 : a0.eval (.tmp 2) = vs := by rw [ha0]; rfl
    have z9 : a0.eval (.tmp 9) = .int .i64 1 := by rw [ha0]; rfl
    refine wrO [] slotsTrffet4 waitTrffet4 [Fct.val Flz 0 (.int .i64 ((i : Int))), Fct.val Flz 1 (vs), Fct.val Flz 2 (.int .i64 (((S).length : Int))), Fct.val Flz 3 (.bool true), Fct.val Flz 4 (.bool true), Fct.val Flz 5 (.int .i64 1), Fct.val Flz 6 (.bool false), Fct.val Flz 7 (.bool false)] (fun w' => Below wr.heap.size wr w') _ 8 0 chkTrffet4 (by kernel_rfl) (by kernel_rfl) (by kernel_rfl) (by decide) (Below.refl _ _) ?_ ?_
    ·refine lt_s (lt_s (lt_s (lt_s (lt_s (lt_s (lt_s (lt_s (lt_0) ?_) ?_) ?_) ?_) ?_) ?_) ?_) ?_
     ·intro f w1 hS hf aA hA
      have r10 : aA.eval (.tmp 10) = .int .i64 ((i : Int)) := pO 10 hA (by kernel_rfl) z10
      exact fV rfl rfl (.int .i64 ((i : Int))) (ex_move (.tmp 10) rfl r10) hS uS
     ·intro f w1 hS hf aA hA
      have r2 : aA.eval (.tmp 2) = vs := pO 2 hA (by kernel_rfl) z2
      exact fV rfl rfl (vs) (ex_move (.tmp 2) rfl r2) hS uS
     ·intro f w1 hS hf aA hA
      have r20 : aA.eval (.tmp 20) = vs := pA 20 1 hA sbTrffet4 (by kernel_rfl) zsz rfl (hf 1 (by decide))
      obtain ⟨q9, c9, hv9, _⟩ := (HS.out.keep hS)
      exact fV rfl rfl (.int .i64 (((S).length : Int))) (ex_len 49 52 (.tmp 20) rfl (by kernel_rfl) q9 (S).length c9 (r20.trans hv9)) hS uS
     ·intro f w1 hS hf aA hA
      have r19 : aA.eval (.tmp 19) = .int .i64 ((i : Int)) := pA 19 0 hA sbTrffet4 (by kernel_rfl) zsz rfl (hf 0 (by decide))
      have r21 : aA.eval (.tmp 21) = .int .i64 (((S).length : Int)) := pA 21 2 hA sbTrffet4 (by kernel_rfl) zsz rfl (hf 2 (by decide))
      exact fV rfl rfl (.bool true) (Eq.trans (ex_int .lss _ _ (.tmp 19) (.tmp 21) rfl .i64 ((i : Int)) (((S).length : Int)) r19 r21 (.bool (decide (((i : Int)) < (((S).length : Int))))) (fun _ => rfl)) (by rw [HLT.out])) hS uS
     ·intro f w1 hS hf aA hA
      have r22 : aA.eval (.tmp 22) = .bool true := pA 22 3 hA sbTrffet4 (by kernel_rfl) zsz rfl (hf 3 (by decide))
      exact fV rfl rfl (.bool true) (ex_move (.tmp 22) rfl r22) hS uS
     ·intro f w1 hS hf aA hA
      have t23 : aA.tmps[23]? = some (.bool true) := pG 23 4 hA sbTrffet4 (by kernel_rfl) zsz rfl (hf 4 (by decide))
      have r9 : aA.eval (.tmp 9) = .int .i64 1 := pO 9 hA (by kernel_rfl) z9
      exact fV rfl ((wanted_of rfl 23 rfl t23).trans rfl) (.int .i64 1) (ex_move (.tmp 9) rfl r9) hS uS
     ·intro f w1 hS hf aA hA
      have t23 : aA.tmps[23]? = some (.bool true) := pG 23 4 hA sbTrffet4 (by kernel_rfl) zsz rfl (hf 4 (by decide))
      have r24 : aA.eval (.tmp 24) = .int .i64 1 := pA 24 5 hA sbTrffet4 (by kernel_rfl) zsz rfl (hf 5 (by decide))
      exact fV rfl ((wanted_of rfl 23 rfl t23).trans rfl) (.bool false) (Eq.trans (ex_int .eql _ _ (.tmp 24) _ rfl .i64 1 0 r24 rfl (.bool ((1 : Int) == (0 : Int))) (fun _ => rfl)) (by rw [(by decide : ((1 : Int) == (0 : Int)) = false)])) hS uS
     ·intro f w1 hS hf aA hA
      have r23 : aA.eval (.tmp 23) = .bool true := pA 23 4 hA sbTrffet4 (by kernel_rfl) zsz rfl (hf 4 (by decide))
      have r25 : aA.eval (.tmp 25) = .bool false := pA 25 6 hA sbTrffet4 (by kernel_rfl) zsz rfl (hf 6 (by decide))
      exact fV rfl rfl (.bool false) (ex_pick (.tmp 23) (.tmp 25) _ rfl true r23 ((if_pos rfl).trans r25)) hS uS
    intro f u4 hS hf hap
    have h0 : f 0 = .int .i64 ((i : Int)) := hf 0 (by decide)
    have h1 : f 1 = vs := hf 1 (by decide)
    have h2 : f 2 = .int .i64 (((S).length : Int)) := hf 2 (by decide)
    have h3 : f 3 = .bool true := hf 3 (by decide)
    have h4 : f 4 = .bool true := hf 4 (by decide)
    have h5 : f 5 = .int .i64 1 := hf 5 (by decide)
    have h6 : f 6 = .bool false := hf 6 (by decide)
    have h7 : f 7 = .bool false := hf 7 (by decide)
    clear hf hap
    clear zsz z10 z2 z9
    subst ha0
    simp only [slotsTrffet4, putAll, h0, h1, h2, h3, h4, h5, h6, h7, Act.put, List.setIfInBounds_toArray, List.set_cons_zero, List.set_cons_succ]
    clear h0 h1 h2 h3 h4 h5 h6 h7
    refine tl_nil ?_
    replace HX_b1_6 := Lib.hid (HX_b1_6.out.keepB hS)
    replace HX1 := Lib.hid (HX1.out.keepB hS)
    replace HZ := Lib.hid (HZ.out.keep hS)
    replace HS := Lib.hid (HS.out.keep hS)
    replace HB := Lib.hid (HB.out.trans (hS.mono HB.out.size))
    clear hS
    have HNE_b1_6_g1 : Hid (b1_6 ≠ g1) := HNE16
    clear HS
    go_upto_region 7 with fail
    refine wp_act (fun a0 ha0 => ?_)
    have zsz : a0.tmps.size = 37 := by rw [ha0]; rfl
    have z8 : a0.eval (.tmp 8) = .pointer (some ⟨b1_6, 0, none⟩) := by rw [ha0]; rfl
    have z9 : a0.eval (.tmp 9) = .int .i64 1 := by rw [ha0]; rfl
    refine wrO [] slotsTrffet7 waitTrffet7 [Fct.val Flz 0 (.agg #[.int .u64 0, vz]), Fct.val Flz 1 (.int .i64 1)] (fun w' => Below u4.heap.size u4 w') _ 2 2 chkTrffet7 (by kernel_rfl) (by kernel_rfl) (by kernel_rfl) (by decide) (Below.refl _ _) ?_ ?_
    ·refine lt_s (lt_s (lt_0) ?_) ?_
     ·intro f w1 hS hf aA hA
      have r8 : aA.eval (.tmp 8) = .pointer (some ⟨b1_6, 0, none⟩) := pO 8 hA (by kernel_rfl) z8
      exact fV rfl rfl (.agg #[.int .u64 0, vz]) (ex_loadR 37 (.tmp 8) rfl ⟨b1_6, 0, none⟩ r8 (fun _ => by kernel_rfl) [.int .u64 0, vz] (by kernel_rfl) ((HX_b1_6.out.keepB hS).part [.int .u64 0, vz] 0 (fun j u hu => by rw [Nat.zero_add]; exact hu))) hS uS
     ·intro f w1 hS hf aA hA
      have r9 : aA.eval (.tmp 9) = .int .i64 1 := pO 9 hA (by kernel_rfl) z9
      exact fV rfl rfl (.int .i64 1) (ex_move (.tmp 9) rfl r9) hS uS
    intro f u7 hS hf hap
    have h0 : f 0 = .agg #[.int .u64 0, vz] := hf 0 (by decide)
    have h1 : f 1 = .int .i64 1 := hf 1 (by decide)
    clear hf hap
    clear zsz z8 z9
    subst ha0
    simp only [slotsTrffet7, putAll, h0, h1, Act.put, List.setIfInBounds_toArray, List.set_cons_zero, List.set_cons_succ]
    clear h0 h1
    have hBS := HB.out.trans (hS.mono HB.out.size)
    replace HX_b1_6 := Lib.hid (HX_b1_6.out.keepB hS)
    replace HX1 := Lib.hid (HX1.out.keepB hS)
    replace HZ := Lib.hid (HZ.out.keep hS)
    clear hS
    refine tl_store rfl (by kernel_rfl) 37 (.tmp 6) (.tmp 35) rfl g1 ([.int .u64 0, vz]) _ rfl rfl _ HX1.out (by kernel_rfl) rfl (tb_ones _ HZ.out.one) ?_
    intro u8 hp hbl hot
    replace HX_b1_6 : Hid (Has u8 b1_6 37 ([.int .u64 0, vz])) := Lib.hid ((hot _ (HNE_b1_6_g1.out)).trans HX_b1_6.out)
    replace HZ := Lib.hid (HZ.out.hotb HX1.out ⟨_, _, _, rfl⟩ (by decide) (hbl 0 (Nat.zero_le _)).size hot)
    replace HX1 : Hid (Has u8 g1 37 ([.int .u64 0, vz])) := Lib.hid hp
    replace hBS := hBS.trans (hbl _ HGg1.out)
    clear hp hbl hot
    try simp only [Act.put]
    refine tl_pure rfl (by kernel_rfl) (.int .i64 1) (ex_assign (.tmp 36) rfl rfl) ?_
    try simp only [Act.put, List.setIfInBounds_toArray, List.set_cons_zero, List.set_cons_succ]
    refine tl_nil ?_
    replace HB := Lib.hid hBS
    clear hBS
    go_wp2_with fail
    (try simp only [Exit.inBlock, Exit.then])
    have HN : Hid (ofT s n A = (0, [], 1)) := Lib.hid (HFIN.out)
    refine bodyPost_ret (v := .tuple #[.agg #[.int .u64 0, vz], .int .i64 1]) ?_ rfl ⟨⟨_, rfl, vz, by rw [HN.out]; rfl, by rw [HN.out]; exact HZ.out⟩, HB.out⟩
    exact results_twoT rfl _ _ g1 37 _ (0, 0) rfl HX1.out _ rfl Tryd.underlying37 (by kernel_rfl)
   ·have HLT : Hid (decide (((i : Int)) < (((S).length : Int))) = false) := Lib.hid (decide_eq_false (by omega))
    go_upto_region 4 with fail
    refine wp_act (fun a0 ha0 => ?_)
    have zsz : a0.tmps.size = 37 := by rw [ha0]; rfl
    have z10 : a0.eval (.tmp 10) = .int .i64 ((i : Int)) := by rw [ha0]; rfl
    have z2 : a0.eval (.tmp 2) = vs := by rw [ha0]; rfl
    refine wrO [] slotsTrffef4 waitTrffef4 [Fct.val Flz 0 (.int .i64 ((i : Int))), Fct.val Flz 1 (vs), Fct.val Flz 2 (.int .i64 (((S).length : Int))), Fct.val Flz 3 (.bool false), Fct.val Flz 4 (.bool false), Fct.val Flz 5 (undef), Fct.val Flz 6 (undef), Fct.val Flz 7 (.bool false)] (fun w' => Below wr.heap.size wr w') _ 8 0 chkTrffef4 (by kernel_rfl) (by kernel_rfl) (by kernel_rfl) (by decide) (Below.refl _ _) ?_ ?_
    ·refine lt_s (lt_s (lt_s (lt_s (lt_s (lt_s (lt_s (lt_s (lt_0) ?_) ?_) ?_) ?_) ?_) ?_) ?_) ?_
     ·intro f w1 hS hf aA hA
      have r10 : aA.eval (.tmp 10) = .int .i64 ((i : Int)) := pO 10 hA (by kernel_rfl) z10
      exact fV rfl rfl (.int .i64 ((i : Int))) (ex_move (.tmp 10) rfl r10) hS uS
     ·intro f w1 hS hf aA hA
      have r2 : aA.eval (.tmp 2) = vs := pO 2 hA (by kernel_rfl) z2
      exact fV rfl rfl (vs) (ex_move (.tmp 2) rfl r2) hS uS
     ·intro f w1 hS hf aA hA
      have r20 : aA.eval (.tmp 20) = vs := pA 20 1 hA sbTrffef4 (by kernel_rfl) zsz rfl (hf 1 (by decide))
      obtain ⟨q9, c9, hv9, _⟩ := (HS.out.keep hS)
      exact fV rfl rfl (.int .i64 (((S).length : Int))) (ex_len 49 52 (.tmp 20) rfl (by kernel_rfl) q9 (S).length c9 (r20.trans hv9)) hS uS
     ·intro f w1 hS hf aA hA
      have r19 : aA.eval (.tmp 19) = .int .i64 ((i : Int)) := pA 19 0 hA sbTrffef4 (by kernel_rfl) zsz rfl (hf 0 (by decide))
      have r21 : aA.eval (.tmp 21) = .int .i64 (((S).length : Int)) := pA 21 2 hA sbTrffef4 (by kernel_rfl) zsz rfl (hf 2 (by decide))
      exact fV rfl rfl (.bool false) (Eq.trans (ex_int .lss _ _ (.tmp 19) (.tmp 21) rfl .i64 ((i : Int)) (((S).length : Int)) r19 r21 (.bool (decide (((i : Int)) < (((S).length : Int))))) (fun _ => rfl)) (by rw [HLT.out])) hS uS
     ·intro f w1 hS hf aA hA
      have r22 : aA.eval (.tmp 22) = .bool false := pA 22 3 hA sbTrffef4 (by kernel_rfl) zsz rfl (hf 3 (by decide))
      exact fV rfl rfl (.bool false) (ex_move (.tmp 22) rfl r22) hS uS
     ·intro f w1 hS hf aA hA
      have t23 : aA.tmps[23]? = some (.bool false) := pG 23 4 hA sbTrffef4 (by kernel_rfl) zsz rfl (hf 4 (by decide))
      exact flw_skip rfl ((wanted_of rfl 23 rfl t23).trans rfl) hS (Flz.refl _) uS
     ·intro f w1 hS hf aA hA
      have t23 : aA.tmps[23]? = some (.bool false) := pG 23 4 hA sbTrffef4 (by kernel_rfl) zsz rfl (hf 4 (by decide))
      exact flw_skip rfl ((wanted_of rfl 23 rfl t23).trans rfl) hS (Flz.refl _) uS
     ·intro f w1 hS hf aA hA
      have r23 : aA.eval (.tmp 23) = .bool false := pA 23 4 hA sbTrffef4 (by kernel_rfl) zsz rfl (hf 4 (by decide))
      exact fV rfl rfl (.bool false) (ex_pick (.tmp 23) (.tmp 25) _ rfl false r23 ((if_neg (by decide)).trans rfl)) hS uS
    intro f u4 hS hf hap
    have h0 : f 0 = .int .i64 ((i : Int)) := hf 0 (by decide)
    have h1 : f 1 = vs := hf 1 (by decide)
    have h2 : f 2 = .int .i64 (((S).length : Int)) := hf 2 (by decide)
    have h3 : f 3 = .bool false := hf 3 (by decide)
    have h4 : f 4 = .bool false := hf 4 (by decide)
    have h5 : f 5 = undef := hf 5 (by decide)
    have h6 : f 6 = undef := hf 6 (by decide)
    have h7 : f 7 = .bool false := hf 7 (by decide)
    clear hf hap
    clear zsz z10 z2
    subst ha0
    simp only [slotsTrffef4, putAll, h0, h1, h2, h3, h4, h5, h6, h7, Act.put, List.setIfInBounds_toArray, List.set_cons_zero, List.set_cons_succ]
    clear h0 h1 h2 h3 h4 h5 h6 h7
    refine tl_nil ?_
    replace HX_b1_6 := Lib.hid (HX_b1_6.out.keepB hS)
    replace HX1 := Lib.hid (HX1.out.keepB hS)
    replace HZ := Lib.hid (HZ.out.keep hS)
    replace HS := Lib.hid (HS.out.keep hS)
    replace HB := Lib.hid (HB.out.trans (hS.mono HB.out.size))
    clear hS
    have HNE_b1_6_g1 : Hid (b1_6 ≠ g1) := HNE16
    clear HS
    go_upto_region 7 with fail
    refine wp_act (fun a0 ha0 => ?_)
    have zsz : a0.tmps.size = 37 := by rw [ha0]; rfl
    have z8 : a0.eval (.tmp 8) = .pointer (some ⟨b1_6, 0, none⟩) := by rw [ha0]; rfl
    have z9 : a0.eval (.tmp 9) = .int .i64 1 := by rw [ha0]; rfl
    refine wrO [] slotsTrffef7 waitTrffef7 [Fct.val Flz 0 (.agg #[.int .u64 0, vz]), Fct.val Flz 1 (.int .i64 1)] (fun w' => Below u4.heap.size u4 w') _ 2 2 chkTrffef7 (by kernel_rfl) (by kernel_rfl) (by kernel_rfl) (by decide) (Below.refl _ _) ?_ ?_
    ·refine lt_s (lt_s (lt_0) ?_) ?_
     ·intro f w1 hS hf aA hA
      have r8 : aA.eval (.tmp 8) = .pointer (some ⟨b1_6, 0, none⟩) := pO 8 hA (by kernel_rfl) z8
      exact fV rfl rfl (.agg #[.int .u64 0, vz]) (ex_loadR 37 (.tmp 8) rfl ⟨b1_6, 0, none⟩ r8 (fun _ => by kernel_rfl) [.int .u64 0, vz] (by kernel_rfl) ((HX_b1_6.out.keepB hS).part [.int .u64 0, vz] 0 (fun j u hu => by rw [Nat.zero_add]; exact hu))) hS uS
     ·intro f w1 hS hf aA hA
      have r9 : aA.eval (.tmp 9) = .int .i64 1 := pO 9 hA (by kernel_rfl) z9
      exact fV rfl rfl (.int .i64 1) (ex_move (.tmp 9) rfl r9) hS uS
    intro f u7 hS hf hap
    have h0 : f 0 = .agg #[.int .u64 0, vz] := hf 0 (by decide)
    have h1 : f 1 = .int .i64 1 := hf 1 (by decide)
    clear hf hap
    clear zsz z8 z9
    subst ha0
    simp only [slotsTrffef7, putAll, h0, h1, Act.put, List.setIfInBounds_toArray, List.set_cons_zero, List.set_cons_succ]
    clear h0 h1
    have hBS := HB.out.trans (hS.mono HB.out.size)
    replace HX_b1_6 := Lib.hid (HX_b1_6.out.keepB hS)
    replace HX1 := Lib.hid (HX1.out.keepB hS)
    replace HZ := Lib.hid (HZ.out.keep hS)
    clear hS
    refine tl_store rfl (by kernel_rfl) 37 (.tmp 6) (.tmp 35) rfl g1 ([.int .u64 0, vz]) _ rfl rfl _ HX1.out (by kernel_rfl) rfl (tb_ones _ HZ.out.one) ?_
    intro u8 hp hbl hot
    replace HX_b1_6 : Hid (Has u8 b1_6 37 ([.int .u64 0, vz])) := Lib.hid ((hot _ (HNE_b1_6_g1.out)).trans HX_b1_6.out)
    replace HZ := Lib.hid (HZ.out.hotb HX1.out ⟨_, _, _, rfl⟩ (by decide) (hbl 0 (Nat.zero_le _)).size hot)
    replace HX1 : Hid (Has u8 g1 37 ([.int .u64 0, vz])) := Lib.hid hp
    replace hBS := hBS.trans (hbl _ HGg1.out)
    clear hp hbl hot
    try simp only [Act.put]
    refine tl_pure rfl (by kernel_rfl) (.int .i64 1) (ex_assign (.tmp 36) rfl rfl) ?_
    try simp only [Act.put, List.setIfInBounds_toArray, List.set_cons_zero, List.set_cons_succ]
    refine tl_nil ?_
    replace HB := Lib.hid hBS
    clear hBS
    go_wp2_with fail
    (try simp only [Exit.inBlock, Exit.then])
    have HN : Hid (ofT s n A = (0, [], 1)) := Lib.hid (HFIN.out)
    refine bodyPost_ret (v := .tuple #[.agg #[.int .u64 0, vz], .int .i64 1]) ?_ rfl ⟨⟨_, rfl, vz, by rw [HN.out]; rfl, by rw [HN.out]; exact HZ.out⟩, HB.out⟩
    exact results_twoT rfl _ _ g1 37 _ (0, 0) rfl HX1.out _ rfl Tryd.underlying37 (by kernel_rfl)
 ·obtain ⟨m, hm, hm3, hm4⟩ := good_int HGD.out
  have HM := Lib.hid hm
  have HM4 := Lib.hid hm4
  clear hm hm3 hm4
  go_upto_region 1 with fail
  refine wp_act (fun a0 ha0 => ?_)
  have zsz : a0.tmps.size = 37 := by rw [ha0]; rfl
  have z0 : a0.eval (.tmp 0) = .int .u64 (s : Int) := by rw [ha0]; rfl
  have z1 : a0.eval (.tmp 1) = .int .i64 n := by rw [ha0]; rfl
  refine wrO [] slotsTrft1 waitTrft1 [Fct.val Flz 0 (.int .u64 (s : Int)), Fct.val Flz 1 (.int .i64 n), Fct.obj 2 (fun v w => ∃ zz, v = .tuple #[.agg #[.int .u64 (s : Int), zz], .int .i64 0] ∧ Cs w zz (List.replicate m zC)) (fun _ _ _ ⟨zz, a, b⟩ he => ⟨zz, a, b.flz he⟩), Fct.obj 3 (fun v w => ∃ zz, v = .tuple #[.agg #[.int .u64 (s : Int), zz], .int .i64 0] ∧ Cs w zz (List.replicate m zC)) (fun _ _ _ ⟨zz, a, b⟩ he => ⟨zz, a, b.flz he⟩), Fct.obj 4 (fun v w => ∃ zz, v = .agg #[.int .u64 (s : Int), zz] ∧ Cs w zz (List.replicate m zC)) (fun _ _ _ ⟨zz, a, b⟩ he => ⟨zz, a, b.flz he⟩), Fct.val Flz 5 (.int .i64 0), Fct.obj 6 (fun v w => ∃ g, v = .pointer (some ⟨g, 0, none⟩) ∧ y1.heap.size ≤ g ∧ Has w g 37 ([.int .u64 0, .slice none 0 0])) (fun _ _ _ ⟨g, a, b, c⟩ he => ⟨g, a, b, c.flz he (by decide)⟩)] (fun w' => Below y1.heap.size y1 w') _ 7 2 chkTrft1 (by kernel_rfl) (by kernel_rfl) (by kernel_rfl) (by decide) (Below.refl _ _) ?_ ?_
  ·refine lt_s (lt_s (lt_s (lt_s (lt_s (lt_s (lt_s (lt_0) ?_) ?_) ?_) ?_) ?_) ?_) ?_
   ·intro f w1 hS hf aA hA
    have r0 : aA.eval (.tmp 0) = .int .u64 (s : Int) := pO 0 hA (by kernel_rfl) z0
    exact fV rfl rfl (.int .u64 (s : Int)) (ex_move (.tmp 0) rfl r0) hS uS
   ·intro f w1 hS hf aA hA
    have r1 : aA.eval (.tmp 1) = .int .i64 n := pO 1 hA (by kernel_rfl) z1
    exact fV rfl rfl (.int .i64 n) (ex_move (.tmp 1) rfl r1) hS uS
   ·intro f w1 hS hf aA hA
    have r12 : aA.eval (.tmp 12) = .int .u64 (s : Int) := pA 12 0 hA sbTrft1 (by kernel_rfl) zsz rfl (hf 0 (by decide))
    have r13 : aA.eval (.tmp 13) = .int .i64 n := pA 13 1 hA sbTrft1 (by kernel_rfl) zsz rfl (hf 1 (by decide))
    exact fC rfl rfl 39 #[(.tmp 12), (.tmp 13)] _ rfl #[.int .u64 (s : Int), .int .i64 n] (mp2 r12 r13) (fun w => by kernel_rfl) _ (newR_t s n m HGD.out HM.out w1) hS (fun _ _ ⟨zz, a, b⟩ => ⟨zz, uS.trans a, b⟩)
   ·intro f w1 hS hf aA hA
    obtain ⟨x14, hx14, hr14⟩ := hf 2 (by decide)
    have e14 : aA.eval (.tmp 14) = .tuple #[.agg #[.int .u64 (s : Int), x14], .int .i64 0] := pA 14 2 hA sbTrft1 (by kernel_rfl) zsz rfl hx14
    exact flw_val rfl rfl (.tuple #[.agg #[.int .u64 (s : Int), x14], .int .i64 0]) (ex_move (.tmp 14) rfl e14) hS (Flz.refl _) ⟨x14, uS, hr14⟩
   ·intro f w1 hS hf aA hA
    obtain ⟨x11, hx11, hr11⟩ := hf 3 (by decide)
    have e11 : aA.eval (.tmp 11) = .tuple #[.agg #[.int .u64 (s : Int), x11], .int .i64 0] := pA 11 3 hA sbTrft1 (by kernel_rfl) zsz rfl hx11
    exact flw_val rfl rfl (.agg #[.int .u64 (s : Int), x11]) (ex_extract (.tmp 11) 0 rfl e11 rfl) hS (Flz.refl _) ⟨x11, uS, hr11⟩
   ·intro f w1 hS hf aA hA
    obtain ⟨x11, hx11, hr11⟩ := hf 3 (by decide)
    have e11 : aA.eval (.tmp 11) = .tuple #[.agg #[.int .u64 (s : Int), x11], .int .i64 0] := pA 11 3 hA sbTrft1 (by kernel_rfl) zsz rfl hx11
    exact fV rfl rfl (.int .i64 0) (ex_extract (.tmp 11) 1 rfl e11 rfl) hS uS
   ·intro f w1 hS hf aA hA
    exact flw_wp rfl rfl (fun K hK => wp_alloc_row 37 rfl (.agg #[.int .u64 0, .slice none 0 0]) (fun w => by kernel_rfl) (hK _ _ (hS.alloc hS.size _) (Flz.al _ _) ⟨_, uS, hS.size, Has.made' _ _ _ _ rfl⟩))
  intro f u1 hS hf hap
  have h0 : f 0 = .int .u64 (s : Int) := hf 0 (by decide)
  have h1 : f 1 = .int .i64 n := hf 1 (by decide)
  obtain ⟨v1_2, h2, -⟩ := hf 2 (by decide)
  obtain ⟨v1_3, h3, -⟩ := hf 3 (by decide)
  obtain ⟨v1_4, h4, hu4⟩ := hf 4 (by decide)
  have HU1_4 := Lib.hid hu4
  clear hu4
  have h5 : f 5 = .int .i64 0 := hf 5 (by decide)
  have HG1L : Hid (g1 < y1.heap.size) := Lib.hid HX1.out.lt
  obtain ⟨b1_6, h6, hgb6, hhb6⟩ := hf 6 (by decide)
  clear hf hap
  clear zsz z0 z1
  subst ha0
  simp only [slotsTrft1, putAll, h0, h1, h2, h3, h4, h5, h6, Act.put, List.setIfInBounds_toArray, List.set_cons_zero, List.set_cons_succ]
  clear h0 h1 h2 h3 h4 h5 h6
  refine tl_store rfl (by kernel_rfl) 37 (.tmp 8) (.tmp 15) rfl b1_6 ([.int .u64 (s : Int), v1_4]) _ rfl rfl _ hhb6 (by kernel_rfl) rfl (tb_ones _ HU1_4.out.one) ?_
  intro u2 hp6 hbl hot
  replace hS := hS.trans (hbl _ hgb6)
  replace HU1_4 := Lib.hid (HU1_4.out.hotb hhb6 ⟨_, _, _, rfl⟩ (by decide) (hbl 0 (Nat.zero_le _)).size hot)
  clear hbl hot hhb6
  try simp only [Act.put]
  refine tl_pure rfl (by kernel_rfl) (.int .i64 0) (ex_assign (.tmp 16) rfl rfl) ?_
  try simp only [Act.put, List.setIfInBounds_toArray, List.set_cons_zero, List.set_cons_succ]
  refine tl_nil ?_
  replace HX1 := Lib.hid (HX1.out.keepB hS)
  have HBW := Lib.hid HB.out.size
  replace HB := Lib.hid (HB.out.trans (hS.mono HB.out.size))
  clear hS
  have HNE16 : Hid (b1_6 ≠ g1) := Lib.hid (by have := HG1L.out; omega)
  have HGb1_6 : Hid (w.heap.size ≤ b1_6) := Lib.hid (Nat.le_trans HBW.out hgb6)
  have HX_b1_6 : Hid (Has u2 b1_6 37 ([.int .u64 (s : Int), v1_4])) := Lib.hid hp6
  clear hp6 hgb6
  clear HBW
  have HRO := Lib.hid (us_rof (HU.out.keep HB.out) HNA.out)
  go_upto_region 3 with ((with_reducible refine Calls.mono HRO.out ?_); rintro e u3 ⟨⟨vs, rfl, hs3⟩, hb3⟩; have HS := Lib.hid hs3; have HB3 := Lib.hid hb3; clear hs3 hb3)
  replace HX1 := Lib.hid (HX1.out.keepB HB3.out)
  replace HX_b1_6 := Lib.hid (HX_b1_6.out.keepB HB3.out)
  replace HU1_4 := Lib.hid (HU1_4.out.keep HB3.out)
  replace HB := Lib.hid (HB.out.trans (HB3.out.mono HB.out.size))
  clear HB3 HRO
  have hSl : (srt A).length ≤ 1000000 := by have := len_srt_le A; have := HNA.out; omega
  have HFIN : Hid (ofT s n A = (s, layA putC s (srt A) (List.replicate m zC), 0)) := Lib.hid (by rw [HOF.out, HGD.out, HM.out]; rfl)
  generalize srt A = S at *
  go_wp2_with fail
  go_loopw [10] (fun vi wr => ∃ i : Nat, i ≤ S.length ∧ vi = .int .i64 i ∧ (∃ z, Has wr b1_6 37 [.int .u64 (s : Int), z] ∧ Cs wr z (layA putC s (S.take i) (List.replicate m zC))) ∧ Us wr vs S ∧ Has wr g1 37 [.int .u64 0, .slice none 0 0] ∧ Below w.heap.size w wr) (fun vi _ => S.length - (intOf vi).toNat)
  case atStart => exact ⟨0, by omega, rfl, ⟨_, HX_b1_6.out, HU1_4.out⟩, HS.out, HX1.out, HB.out⟩
  case round =>
   clear HU1_4 HX_b1_6 HX1 HS HB
   rename_i wr
   obtain ⟨i, hi, rfl, ⟨vz, hx6, hz⟩, hs, hx1, hB⟩ := hrel
   have HX_b1_6 := Lib.hid hx6
   have HZ := Lib.hid hz
   have HS := Lib.hid hs
   have HX1 := Lib.hid hx1
   have HB := Lib.hid hB
   clear hx6 hz hs hx1 hB
   by_cases hlt : i < S.length
   ·have HLT : Hid (decide (((i : Int)) < (((S).length : Int))) = true) := Lib.hid (decide_eq_true (by omega))
    have HTK : Hid (S.take (i + 1) = S.take i ++ [S[i]]) := Lib.hid (List.take_succ_eq_append_getElem hlt)
    have HLM : Hid ((layA putC s (S.take i) (List.replicate m zC)).length ≤ 1000000) := Lib.hid (by rw [layA_len, List.length_replicate]; exact Nat.le_trans HM4.out (by decide))
    go_upto_region 4 with fail
    refine wp_act (fun a0 ha0 => ?_)
    have zsz : a0.tmps.size = 37 := by rw [ha0]; rfl
    have z10 : a0.eval (.tmp 10) = .int .i64 ((i : Int)) := by rw [ha0]; rfl
    have z2 : a0.eval (.tmp 2) = vs := by rw [ha0]; rfl
    have z9 : a0.eval (.tmp 9) = .int .i64 0 := by rw [ha0]; rfl
    refine wrO [] slotsTrfl4 waitTrfl4 [Fct.val Flz 0 (.int .i64 ((i : Int))), Fct.val Flz 1 (vs), Fct.val Flz 2 (.int .i64 (((S).length : Int))), Fct.val Flz 3 (.bool true), Fct.val Flz 4 (.bool true), Fct.val Flz 5 (.int .i64 0), Fct.val Flz 6 (.bool true), Fct.val Flz 7 (.bool true)] (fun w' => Below wr.heap.size wr w') _ 8 0 chkTrfl4 (by kernel_rfl) (by kernel_rfl) (by kernel_rfl) (by decide) (Below.refl _ _) ?_ ?_
    ·refine lt_s (lt_s (lt_s (lt_s (lt_s (lt_s (lt_s (lt_s (lt_0) ?_) ?_) ?_) ?_) ?_) ?_) ?_) ?_
     ·intro f w1 hS hf aA hA
      have r10 : aA.eval (.tmp 10) = .int .i64 ((i : Int)) := pO 10 hA (by kernel_rfl) z10
      exact fV rfl rfl (.int .i64 ((i : Int))) (ex_move (.tmp 10) rfl r10) hS uS
     ·intro f w1 hS hf aA hA
      have r2 : aA.eval (.tmp 2) = vs := pO 2 hA (by kernel_rfl) z2
      exact fV rfl rfl (vs) (ex_move (.tmp 2) rfl r2) hS uS
     ·intro f w1 hS hf aA hA
      have r20 : aA.eval (.tmp 20) = vs := pA 20 1 hA sbTrfl4 (by kernel_rfl) zsz rfl (hf 1 (by decide))
      obtain ⟨q9, c9, hv9, _⟩ := (HS.out.keep hS)
      exact fV rfl rfl (.int .i64 (((S).length : Int))) (ex_len 49 52 (.tmp 20) rfl (by kernel_rfl) q9 (S).length c9 (r20.trans hv9)) hS uS
     ·intro f w1 hS hf aA hA
      have r19 : aA.eval (.tmp 19) = .int .i64 ((i : Int)) := pA 19 0 hA sbTrfl4 (by kernel_rfl) zsz rfl (hf 0 (by decide))
      have r21 : aA.eval (.tmp 21) = .int .i64 (((S).length : Int)) := pA 21 2 hA sbTrfl4 (by kernel_rfl) zsz rfl (hf 2 (by decide))
      exact fV rfl rfl (.bool true) (Eq.trans (ex_int .lss _ _ (.tmp 19) (.tmp 21) rfl .i64 ((i : Int)) (((S).length : Int)) r19 r21 (.bool (decide (((i : Int)) < (((S).length : Int))))) (fun _ => rfl)) (by rw [HLT.out])) hS uS
     ·intro f w1 hS hf aA hA
      have r22 : aA.eval (.tmp 22) = .bool true := pA 22 3 hA sbTrfl4 (by kernel_rfl) zsz rfl (hf 3 (by decide))
      exact fV rfl rfl (.bool true) (ex_move (.tmp 22) rfl r22) hS uS
     ·intro f w1 hS hf aA hA
      have t23 : aA.tmps[23]? = some (.bool true) := pG 23 4 hA sbTrfl4 (by kernel_rfl) zsz rfl (hf 4 (by decide))
      have r9 : aA.eval (.tmp 9) = .int .i64 0 := pO 9 hA (by kernel_rfl) z9
      exact fV rfl ((wanted_of rfl 23 rfl t23).trans rfl) (.int .i64 0) (ex_move (.tmp 9) rfl r9) hS uS
     ·intro f w1 hS hf aA hA
      have t23 : aA.tmps[23]? = some (.bool true) := pG 23 4 hA sbTrfl4 (by kernel_rfl) zsz rfl (hf 4 (by decide))
      have r24 : aA.eval (.tmp 24) = .int .i64 0 := pA 24 5 hA sbTrfl4 (by kernel_rfl) zsz rfl (hf 5 (by decide))
      exact fV rfl ((wanted_of rfl 23 rfl t23).trans rfl) (.bool true) (Eq.trans (ex_int .eql _ _ (.tmp 24) _ rfl .i64 0 0 r24 rfl (.bool ((0 : Int) == (0 : Int))) (fun _ => rfl)) (by rw [(by decide : ((0 : Int) == (0 : Int)) = true)])) hS uS
     ·intro f w1 hS hf aA hA
      have r23 : aA.eval (.tmp 23) = .bool true := pA 23 4 hA sbTrfl4 (by kernel_rfl) zsz rfl (hf 4 (by decide))
      have r25 : aA.eval (.tmp 25) = .bool true := pA 25 6 hA sbTrfl4 (by kernel_rfl) zsz rfl (hf 6 (by decide))
      exact fV rfl rfl (.bool true) (ex_pick (.tmp 23) (.tmp 25) _ rfl true r23 ((if_pos rfl).trans r25)) hS uS
    intro f u4 hS hf hap
    have h0 : f 0 = .int .i64 ((i : Int)) := hf 0 (by decide)
    have h1 : f 1 = vs := hf 1 (by decide)
    have h2 : f 2 = .int .i64 (((S).length : Int)) := hf 2 (by decide)
    have h3 : f 3 = .bool true := hf 3 (by decide)
    have h4 : f 4 = .bool true := hf 4 (by decide)
    have h5 : f 5 = .int .i64 0 := hf 5 (by decide)
    have h6 : f 6 = .bool true := hf 6 (by decide)
    have h7 : f 7 = .bool true := hf 7 (by decide)
    clear hf hap
    clear zsz z10 z2 z9
    subst ha0
    simp only [slotsTrfl4, putAll, h0, h1, h2, h3, h4, h5, h6, h7, Act.put, List.setIfInBounds_toArray, List.set_cons_zero, List.set_cons_succ]
    clear h0 h1 h2 h3 h4 h5 h6 h7
    refine tl_nil ?_
    replace HX_b1_6 := Lib.hid (HX_b1_6.out.keepB hS)
    replace HX1 := Lib.hid (HX1.out.keepB hS)
    replace HZ := Lib.hid (HZ.out.keep hS)
    replace HS := Lib.hid (HS.out.keep hS)
    replace HB := Lib.hid (HB.out.trans (hS.mono HB.out.size))
    clear hS
    go_upto_region 6 with fail
    have HST : Hid (Below u4.heap.size u4 u4.drew) := Lib.hid (Below.refl _ _).drew
    replace HX_b1_6 := Lib.hid (HX_b1_6.out.keepB HST.out)
    replace HX1 := Lib.hid (HX1.out.keepB HST.out)
    replace HZ := Lib.hid (HZ.out.keep HST.out)
    replace HS := Lib.hid (HS.out.keep HST.out)
    replace HB := Lib.hid (HB.out.trans (HST.out.mono HB.out.size))
    clear HST
    obtain ⟨a, cp2, hv, hc⟩ := Us.elU HS.out hlt
    have HV := Lib.hid hv
    have HCC := Lib.hid hc
    clear hv hc
    refine wp_act (fun a0 ha0 => ?_)
    have zsz : a0.tmps.size = 37 := by rw [ha0]; rfl
    have z8 : a0.eval (.tmp 8) = .pointer (some ⟨b1_6, 0, none⟩) := by rw [ha0]; rfl
    have z2 : a0.eval (.tmp 2) = vs := by rw [ha0]; rfl
    have z10 : a0.eval (.tmp 10) = .int .i64 ((i : Int)) := by rw [ha0]; rfl
    refine wrD [] slotsTrf6 waitTrf6 [Fct.val Flz 0 (.agg #[.int .u64 (s : Int), vz]), Fct.val Flz 1 (vs), Fct.val Flz 2 (.int .i64 ((i : Int))), Fct.val Flz 3 (.pointer (some (a.add (i * 32)))), Fct.val Flz 4 (.agg (encU ((S[i]))).toArray), Fct.obj 5 (fun v w => ∃ zz, v = .agg #[.int .u64 (s : Int), zz] ∧ Cs w zz (layT putC s ((S[i])) (layA putC s (S.take i) (List.replicate m zC)))) (fun _ _ _ ⟨zz, a, b⟩ he => ⟨zz, a, b.flz he⟩)] (fun w' => Below u4.drew.heap.size u4.drew w') _ 6 1 chkTrf6 (by kernel_rfl) (by kernel_rfl) (by kernel_rfl) (by kernel_rfl) (by decide) (Below.refl _ _) ?_ ?_
    ·refine lt_s (lt_s (lt_s (lt_s (lt_s (lt_s (lt_0) ?_) ?_) ?_) ?_) ?_) ?_
     ·intro f w1 hS hf aA hA
      have r8 : aA.eval (.tmp 8) = .pointer (some ⟨b1_6, 0, none⟩) := pO 8 hA (by kernel_rfl) z8
      exact fV rfl rfl (.agg #[.int .u64 (s : Int), vz]) (ex_loadR 37 (.tmp 8) rfl ⟨b1_6, 0, none⟩ r8 (fun _ => by kernel_rfl) [.int .u64 (s : Int), vz] (by kernel_rfl) ((HX_b1_6.out.keepB hS).part [.int .u64 (s : Int), vz] 0 (fun j u hu => by rw [Nat.zero_add]; exact hu))) hS uS
     ·intro f w1 hS hf aA hA
      have r2 : aA.eval (.tmp 2) = vs := pO 2 hA (by kernel_rfl) z2
      exact fV rfl rfl (vs) (ex_move (.tmp 2) rfl r2) hS uS
     ·intro f w1 hS hf aA hA
      have r10 : aA.eval (.tmp 10) = .int .i64 ((i : Int)) := pO 10 hA (by kernel_rfl) z10
      exact fV rfl rfl (.int .i64 ((i : Int))) (ex_move (.tmp 10) rfl r10) hS uS
     ·intro f w1 hS hf aA hA
      have r30 : aA.eval (.tmp 30) = vs := pA 30 1 hA sbTrf6 (by kernel_rfl) zsz rfl (hf 1 (by decide))
      have r31 : aA.eval (.tmp 31) = .int .i64 ((i : Int)) := pA 31 2 hA sbTrf6 (by kernel_rfl) zsz rfl (hf 2 (by decide))
      exact fV rfl rfl (.pointer (some (a.add (i * 32)))) (ex_indexS 49 52 (.tmp 30) (.tmp 31) rfl a S.length cp2 i 32 (by kernel_rfl) (fun _ => by kernel_rfl) (Eq.trans r30 HV.out) r31 hlt) hS uS
     ·intro f w1 hS hf aA hA
      have r32 : aA.eval (.tmp 32) = .pointer (some (a.add (i * 32))) := pA 32 3 hA sbTrf6 (by kernel_rfl) zsz rfl (hf 3 (by decide))
      exact fV rfl rfl (.agg (encU ((S[i]))).toArray) (ex_loadR 52 (.tmp 32) rfl (a.add (i * 32)) r32 (fun _ => by kernel_rfl) (encU ((S[i]))) (by rw [encU_len]; kernel_rfl) (HCC.out w1 hS.block)) hS uS
     ·intro f w1 hS hf aA hA
      have r29 : aA.eval (.tmp 29) = .agg #[.int .u64 (s : Int), vz] := pA 29 0 hA sbTrf6 (by kernel_rfl) zsz rfl (hf 0 (by decide))
      have r33 : aA.eval (.tmp 33) = .agg (encU ((S[i]))).toArray := pA 33 4 hA sbTrf6 (by kernel_rfl) zsz rfl (hf 4 (by decide))
      exact fC rfl rfl 22 #[(.tmp 29), (.tmp 33), _] _ rfl #[.agg #[.int .u64 (s : Int), vz], .agg (encU ((S[i]))).toArray, .int .i64 1] (by simp only [List.map_toArray, List.map_cons, List.map_nil, r29, r33]; rfl) (fun w => by kernel_rfl) _ (rputT_any s ((S[i])) 1 _ _ putC w1 HSD.out (fun _ _ => rfl) HLM.out (HZ.out.keep hS)) hS (fun _ _ ⟨zz, a, b⟩ => ⟨zz, uS.trans a, b⟩)
    intro f u6 hS hf hap
    have h0 : f 0 = .agg #[.int .u64 (s : Int), vz] := hf 0 (by decide)
    have h1 : f 1 = vs := hf 1 (by decide)
    have h2 : f 2 = .int .i64 ((i : Int)) := hf 2 (by decide)
    have h3 : f 3 = .pointer (some (a.add (i * 32))) := hf 3 (by decide)
    have h4 : f 4 = .agg (encU ((S[i]))).toArray := hf 4 (by decide)
    obtain ⟨v6_5, h5, hu5⟩ := hf 5 (by decide)
    have HU6_5 := Lib.hid hu5
    clear hu5
    clear hf hap
    clear zsz z8 z2 z10
    subst ha0
    simp only [slotsTrf6, putAll, h0, h1, h2, h3, h4, h5, Act.put, List.setIfInBounds_toArray, List.set_cons_zero, List.set_cons_succ]
    clear h0 h1 h2 h3 h4 h5
    have HNE_b1_6_g1 : Hid (b1_6 ≠ g1) := HNE16
    have hBS := HB.out.trans (hS.mono HB.out.size)
    replace HX_b1_6 := Lib.hid (HX_b1_6.out.keepB hS)
    replace HX1 := Lib.hid (HX1.out.keepB hS)
    replace HZ := Lib.hid (HZ.out.keep hS)
    replace HS := Lib.hid (HS.out.keep hS)
    clear hS
    refine tl_store rfl (by kernel_rfl) 37 (.tmp 8) (.tmp 34) rfl b1_6 ([.int .u64 (s : Int), v6_5]) _ rfl rfl _ HX_b1_6.out (by kernel_rfl) rfl (tb_ones _ HU6_5.out.one) ?_
    intro u7 hp hbl hot
    replace HX1 : Hid (Has u7 g1 37 ([.int .u64 0, .slice none 0 0])) := Lib.hid ((hot _ (Ne.symm HNE_b1_6_g1.out)).trans HX1.out)
    replace HZ := Lib.hid (HZ.out.hotb HX_b1_6.out HZ.out.sl (by decide) (hbl 0 (Nat.zero_le _)).size hot)
    replace HS := Lib.hid (HS.out.hotb HX_b1_6.out HZ.out.sl (by decide) (hbl 0 (Nat.zero_le _)).size hot)
    replace HU6_5 := Lib.hid (HU6_5.out.hotb HX_b1_6.out HZ.out.sl (by decide) (hbl 0 (Nat.zero_le _)).size hot)
    replace HX_b1_6 : Hid (Has u7 b1_6 37 ([.int .u64 (s : Int), v6_5])) := Lib.hid hp
    replace hBS := hBS.trans (hbl _ HGb1_6.out)
    clear hp hbl hot
    try simp only [Act.put]
    refine tl_nilN ?_
    replace HB := Lib.hid hBS
    clear hBS
    go_wp2_with fail
    go_roundw
    case rel => exact ⟨i + 1, by omega, by go_num, ⟨_, HX_b1_6.out, by rw [HTK.out, layA_snoc]; exact HU6_5.out⟩, HS.out, HX1.out, HB.out⟩
    case measure => simp [intOf]; omega
   ·have hiS : i = S.length := by omega
    have HTA : Hid (layA putC s (S.take i) (List.replicate m zC) = layA putC s S (List.replicate m zC)) := Lib.hid (by rw [hiS, List.take_length])
    have HLT : Hid (decide (((i : Int)) < (((S).length : Int))) = false) := Lib.hid (decide_eq_false (by omega))
    go_upto_region 4 with fail
    refine wp_act (fun a0 ha0 => ?_)
    have zsz : a0.tmps.size = 37 := by rw [ha0]; rfl
    have z10 : a0.eval (.tmp 10) = .int .i64 ((i : Int)) := by rw [ha0]; rfl
    have z2 : a0.eval (.tmp 2) = vs := by rw [ha0]; rfl
    refine wrO [] slotsTrftef4 waitTrftef4 [Fct.val Flz 0 (.int .i64 ((i : Int))), Fct.val Flz 1 (vs), Fct.val Flz 2 (.int .i64 (((S).length : Int))), Fct.val Flz 3 (.bool false), Fct.val Flz 4 (.bool false), Fct.val Flz 5 (undef), Fct.val Flz 6 (undef), Fct.val Flz 7 (.bool false)] (fun w' => Below wr.heap.size wr w') _ 8 0 chkTrftef4 (by kernel_rfl) (by kernel_rfl) (by kernel_rfl) (by decide) (Below.refl _ _) ?_ ?_
    ·refine lt_s (lt_s (lt_s (lt_s (lt_s (lt_s (lt_s (lt_s (lt_0) ?_) ?_) ?_) ?_) ?_) ?_) ?_) ?_
     ·intro f w1 hS hf aA hA
      have r10 : aA.eval (.tmp 10) = .int .i64 ((i : Int)) := pO 10 hA (by kernel_rfl) z10
      exact fV rfl rfl (.int .i64 ((i : Int))) (ex_move (.tmp 10) rfl r10) hS uS
     ·intro f w1 hS hf aA hA
      have r2 : aA.eval (.tmp 2) = vs := pO 2 hA (by kernel_rfl) z2
      exact fV rfl rfl (vs) (ex_move (.tmp 2) rfl r2) hS uS
     ·intro f w1 hS hf aA hA
      have r20 : aA.eval (.tmp 20) = vs := pA 20 1 hA sbTrftef4 (by kernel_rfl) zsz rfl (hf 1 (by decide))
      obtain ⟨q9, c9, hv9, _⟩ := (HS.out.keep hS)
      exact fV rfl rfl (.int .i64 (((S).length : Int))) (ex_len 49 52 (.tmp 20) rfl (by kernel_rfl) q9 (S).length c9 (r20.trans hv9)) hS uS
     ·intro f w1 hS hf aA hA
      have r19 : aA.eval (.tmp 19) = .int .i64 ((i : Int)) := pA 19 0 hA sbTrftef4 (by kernel_rfl) zsz rfl (hf 0 (by decide))
      have r21 : aA.eval (.tmp 21) = .int .i64 (((S).length : Int)) := pA 21 2 hA sbTrftef4 (by kernel_rfl) zsz rfl (hf 2 (by decide))
      exact fV rfl rfl (.bool false) (Eq.trans (ex_int .lss _ _ (.tmp 19) (.tmp 21) rfl .i64 ((i : Int)) (((S).length : Int)) r19 r21 (.bool (decide (((i : Int)) < (((S).length : Int))))) (fun _ => rfl)) (by rw [HLT.out])) hS uS
     ·intro f w1 hS hf aA hA
      have r22 : aA.eval (.tmp 22) = .bool false := pA 22 3 hA sbTrftef4 (by kernel_rfl) zsz rfl (hf 3 (by decide))
      exact fV rfl rfl (.bool false) (ex_move (.tmp 22) rfl r22) hS uS
     ·intro f w1 hS hf aA hA
      have t23 : aA.tmps[23]? = some (.bool false) := pG 23 4 hA sbTrftef4 (by kernel_rfl) zsz rfl (hf 4 (by decide))
      exact flw_skip rfl ((wanted_of rfl 23 rfl t23).trans rfl) hS (Flz.refl _) uS
     ·intro f w1 hS hf aA hA
      have t23 : aA.tmps[23]? = some (.bool false) := pG 23 4 hA sbTrftef4 (by kernel_rfl) zsz rfl (hf 4 (by decide))
      exact flw_skip rfl ((wanted_of rfl 23 rfl t23).trans rfl) hS (Flz.refl _) uS
     ·intro f w1 hS hf aA hA
      have r23 : aA.eval (.tmp 23) = .bool false := pA 23 4 hA sbTrftef4 (by kernel_rfl) zsz rfl (hf 4 (by decide))
      exact fV rfl rfl (.bool false) (ex_pick (.tmp 23) (.tmp 25) _ rfl false r23 ((if_neg (by decide)).trans rfl)) hS uS
    intro f u4 hS hf hap
    have h0 : f 0 = .int .i64 ((i : Int)) := hf 0 (by decide)
    have h1 : f 1 = vs := hf 1 (by decide)
    have h2 : f 2 = .int .i64 (((S).length : Int)) := hf 2 (by decide)
    have h3 : f 3 = .bool false := hf 3 (by decide)
    have h4 : f 4 = .bool false := hf 4 (by decide)
    have h5 : f 5 = undef := hf 5 (by decide)
    have h6 : f 6 = undef := hf 6 (by decide)
    have h7 : f 7 = .bool false := hf 7 (by decide)
    clear hf hap
    clear zsz z10 z2
    subst ha0
    simp only [slotsTrftef4, putAll, h0, h1, h2, h3, h4, h5, h6, h7, Act.put, List.setIfInBounds_toArray, List.set_cons_zero, List.set_cons_succ]
    clear h0 h1 h2 h3 h4 h5 h6 h7
    refine tl_nil ?_
    replace HX_b1_6 := Lib.hid (HX_b1_6.out.keepB hS)
    replace HX1 := Lib.hid (HX1.out.keepB hS)
    replace HZ := Lib.hid (HZ.out.keep hS)
    replace HS := Lib.hid (HS.out.keep hS)
    replace HB := Lib.hid (HB.out.trans (hS.mono HB.out.size))
    clear hS
    have HNE_b1_6_g1 : Hid (b1_6 ≠ g1) := HNE16
    clear HS
    go_upto_region 7 with fail
    refine wp_act (fun a0 ha0 => ?_)
    have zsz : a0.tmps.size = 37 := by rw [ha0]; rfl
    have z8 : a0.eval (.tmp 8) = .pointer (some ⟨b1_6, 0, none⟩) := by rw [ha0]; rfl
    have z9 : a0.eval (.tmp 9) = .int .i64 0 := by rw [ha0]; rfl
    refine wrO [] slotsTrftef7 waitTrftef7 [Fct.val Flz 0 (.agg #[.int .u64 (s : Int), vz]), Fct.val Flz 1 (.int .i64 0)] (fun w' => Below u4.heap.size u4 w') _ 2 2 chkTrftef7 (by kernel_rfl) (by kernel_rfl) (by kernel_rfl) (by decide) (Below.refl _ _) ?_ ?_
    ·refine lt_s (lt_s (lt_0) ?_) ?_
     ·intro f w1 hS hf aA hA
      have r8 : aA.eval (.tmp 8) = .pointer (some ⟨b1_6, 0, none⟩) := pO 8 hA (by kernel_rfl) z8
      exact fV rfl rfl (.agg #[.int .u64 (s : Int), vz]) (ex_loadR 37 (.tmp 8) rfl ⟨b1_6, 0, none⟩ r8 (fun _ => by kernel_rfl) [.int .u64 (s : Int), vz] (by kernel_rfl) ((HX_b1_6.out.keepB hS).part [.int .u64 (s : Int), vz] 0 (fun j u hu => by rw [Nat.zero_add]; exact hu))) hS uS
     ·intro f w1 hS hf aA hA
      have r9 : aA.eval (.tmp 9) = .int .i64 0 := pO 9 hA (by kernel_rfl) z9
      exact fV rfl rfl (.int .i64 0) (ex_move (.tmp 9) rfl r9) hS uS
    intro f u7 hS hf hap
    have h0 : f 0 = .agg #[.int .u64 (s : Int), vz] := hf 0 (by decide)
    have h1 : f 1 = .int .i64 0 := hf 1 (by decide)
    clear hf hap
    clear zsz z8 z9
    subst ha0
    simp only [slotsTrftef7, putAll, h0, h1, Act.put, List.setIfInBounds_toArray, List.set_cons_zero, List.set_cons_succ]
    clear h0 h1
    have hBS := HB.out.trans (hS.mono HB.out.size)
    replace HX_b1_6 := Lib.hid (HX_b1_6.out.keepB hS)
    replace HX1 := Lib.hid (HX1.out.keepB hS)
    replace HZ := Lib.hid (HZ.out.keep hS)
    clear hS
    refine tl_store rfl (by kernel_rfl) 37 (.tmp 6) (.tmp 35) rfl g1 ([.int .u64 (s : Int), vz]) _ rfl rfl _ HX1.out (by kernel_rfl) rfl (tb_ones _ HZ.out.one) ?_
    intro u8 hp hbl hot
    replace HX_b1_6 : Hid (Has u8 b1_6 37 ([.int .u64 (s : Int), vz])) := Lib.hid ((hot _ (HNE_b1_6_g1.out)).trans HX_b1_6.out)
    replace HZ := Lib.hid (HZ.out.hotb HX1.out ⟨_, _, _, rfl⟩ (by decide) (hbl 0 (Nat.zero_le _)).size hot)
    replace HX1 : Hid (Has u8 g1 37 ([.int .u64 (s : Int), vz])) := Lib.hid hp
    replace hBS := hBS.trans (hbl _ HGg1.out)
    clear hp hbl hot
    try simp only [Act.put]
    refine tl_pure rfl (by kernel_rfl) (.int .i64 0) (ex_assign (.tmp 36) rfl rfl) ?_
    try simp only [Act.put, List.setIfInBounds_toArray, List.set_cons_zero, List.set_cons_succ]
    refine tl_nil ?_
    replace HB := Lib.hid hBS
    clear hBS
    go_wp2_with fail
    (try simp only [Exit.inBlock, Exit.then])
    have HN : Hid (ofT s n A = (s, layA putC s S (List.replicate m zC), 0)) := Lib.hid (HFIN.out)
    refine bodyPost_ret (v := .tuple #[.agg #[.int .u64 (s : Int), vz], .int .i64 0]) ?_ rfl ⟨⟨_, rfl, vz, by rw [HN.out], by rw [HN.out]; exact (by have := HZ.out; rwa [HTA.out] at this)⟩, HB.out⟩
    exact results_twoT rfl _ _ g1 37 _ (0, 0) rfl HX1.out _ rfl Tryd.underlying37 (by kernel_rfl)
theorem rofT_any (s : Nat) (n : Int) (v : Value) (A : List Su) (w : World) (hs : s < 18446744073709551616) (hn : A.length ≤ 10000) (hU : Us w v A) : Calls Tryd.prog 19 #[.int .u64 (s : Int), .int .i64 n, v] w fun e w' => (∃ v, e = .returned v ∧ ∃ x, v = .tuple #[.agg #[.int .u64 ((ofT s n A).1 : Int), x], .int .i64 (ofT s n A).2.2] ∧ Cs w' x (ofT s n A).2.1) ∧ Below w.heap.size w w' := rofT_b s n v A w w (Below.refl _ _) hs hn hU
end Go.Proofs.YtepeloenijlnhaaDoor
