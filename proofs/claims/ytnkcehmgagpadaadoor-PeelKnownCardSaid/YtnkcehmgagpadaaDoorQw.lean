/- The law's own awake: true. Condition: the sums' tables are laid. -/
import Derived.Test.YtnkcehmgagpadaaDoorSq
import Derived.Test.YtnkcehmgagpadaaDoorGp22
import Derived.Test.YtnkcehmgagpadaaDoorGp16
namespace Go.Proofs.YtnkcehmgagpadaaDoor
open Go.RowKit
def K12 : List Su := srt (([1, 2] : List Int).map fewS)
def K23 : List Su := srt (([2, 3] : List Int).map fewS)
def K1 : List Su := srt (([1] : List Int).map fewS)
def K3 : List Su := srt (([3] : List Int).map fewS)
theorem mem_few {x : Su} {l : List Int} : x ∈ srt (l.map fewS) ↔ ∃ n ∈ l, fewS n = x := by rw [mem_srt, List.mem_map]
theorem ne12 : fewS 1 ≠ fewS 2 := of_decide_eq_false few_12
theorem ne13 : fewS 1 ≠ fewS 3 := of_decide_eq_false few_13
theorem ne23 : fewS 2 ≠ fewS 3 := of_decide_eq_false few_23
theorem asc_one (x : Su) : AscU [x] := asc_srt [x]
theorem K_more : minU K12 K23 = [fewS 1] := ascU_unique (asc_minU _ _) (asc_one _) fun z => by
 rw [mem_minU]; unfold K12 K23; rw [mem_few, mem_few]
 simp only [List.mem_cons, List.not_mem_nil, or_false, exists_eq_or_imp, exists_eq_left]
 constructor
 ·rintro ⟨h1 | h1, h2⟩
  ·exact h1.symm
  ·exact absurd (.inl h1) h2
 ·rintro rfl
  refine ⟨.inl rfl, ?_⟩
  rintro (h | h)
  ·exact ne12 h.symm
  ·exact ne13 h.symm
theorem K_less : minU K23 K12 = [fewS 3] := ascU_unique (asc_minU _ _) (asc_one _) fun z => by
 rw [mem_minU]; unfold K12 K23; rw [mem_few, mem_few]
 simp only [List.mem_cons, List.not_mem_nil, or_false, exists_eq_or_imp, exists_eq_left]
 constructor
 ·rintro ⟨h1 | h1, h2⟩
  ·exact absurd (.inr h1) h2
  ·exact h1.symm
 ·rintro rfl
  refine ⟨.inr rfl, ?_⟩
  rintro (h | h)
  ·exact ne13 h
  ·exact ne23 h
theorem K_own : ownQ 5 (tabP 5 30 K12) K23 = (List.replicate 30 zC, [fewS 1], [fewS 3]) := own_two (by decide) (asc_few _) (asc_few _) K_more K_less (by
 obtain ⟨i, h1, h2⟩ := List.any_eq_true.1 few_at
 exact ⟨i, List.mem_range.1 h1, by simpa using h2⟩)
theorem K_ok : ownB K23 (List.replicate 30 zC, [fewS 1], [fewS 3]) = true := ownB_of (m := 30) (by decide) (by simp [ne13]) (fun z hz => by
 rw [List.mem_singleton.1 hz]; unfold K23; rw [mem_few]; exact ⟨3, by simp, rfl⟩) (fun z hz => by
 rw [List.mem_singleton.1 hz]; unfold K23; rw [mem_few]
 simp only [List.mem_cons, List.not_mem_nil, or_false, exists_eq_or_imp, exists_eq_left]
 rintro (h | h)
 ·exact ne12 h.symm
 ·exact ne13 h.symm)
def waitQaw1 (i : Nat) : List Nat := ([[], [0], [], [2], [1], [3]] : List (List Nat)).getD i []
def slotsQaw1 : List (Nat × Nat) := [(8, 0), (9, 1), (10, 2), (11, 3), (1, 4), (2, 5)]
theorem sbQaw1 : slotsB slotsQaw1 = true := by kernel_rfl
theorem chkQaw1 : flwO slotsQaw1 waitQaw1 6 (regOf Tryd.f8.body 1) = true := by kernel_rfl
def waitQaw2 (i : Nat) : List Nat := ([[], [0], [1], [2], [2], [], [0, 1, 2, 3, 4, 5], [0, 1, 2, 3, 4, 5, 6]] : List (List Nat)).getD i []
def slotsQaw2 : List (Nat × Nat) := [(13, 0), (14, 1), (12, 2), (15, 3), (16, 4), (3, 5), (4, 7)]
theorem sbQaw2 : slotsB slotsQaw2 = true := by kernel_rfl
theorem chkQaw2 : flwO slotsQaw2 waitQaw2 6 (regOf Tryd.f8.body 2) = true := by kernel_rfl
def waitQaw3 (i : Nat) : List Nat := ([[], [], [0, 1], [2], [3], [3], [3], [4], [5], [6]] : List (List Nat)).getD i []
def slotsQaw3 : List (Nat × Nat) := [(18, 0), (19, 1), (20, 2), (17, 3), (21, 4), (22, 5), (23, 6), (5, 7), (6, 8), (7, 9)]
theorem sbQaw3 : slotsB slotsQaw3 = true := by kernel_rfl
theorem chkQaw3 : flwO slotsQaw3 waitQaw3 10 (regOf Tryd.f8.body 3) = true := by kernel_rfl
def waitQaw4 (i : Nat) : List Nat := ([[], [0], [1], [2], [2], [2, 4], [2, 3, 5], [2, 6], [7], [8], [8], [8, 10], [8, 9, 11], [8, 12], [0, 1, 2, 3, 4, 5, 6, 7, 8, 9, 10, 11, 12, 13]] : List (List Nat)).getD i []
def slotsQaw4 : List (Nat × Nat) := [(24, 0), (25, 1), (26, 2), (27, 3), (28, 4), (29, 5), (30, 6), (31, 7), (32, 8), (33, 9), (34, 10), (35, 11), (36, 12), (37, 13), (0, 14)]
theorem sbQaw4 : slotsB slotsQaw4 = true := by kernel_rfl
theorem chkQaw4 : flwO slotsQaw4 waitQaw4 14 (regOf Tryd.f8.body 4) = true := by kernel_rfl
set_option maxHeartbeats 16000000 in
set_option maxRecDepth 100000 in
theorem awake16_b  (w w0 : World) (hB : Below w.heap.size w w0) (hL : Laid w) : Calls Tryd.prog 8 #[] w0 fun e w' => (∃ v, e = .returned v ∧ v = .bool true) ∧ Below w.heap.size w w' := by
 go_enter Tryd.func8, Tryd.ntmps8
 have HB := Lib.hid hB
 clear hB
 have HL := Lib.hid hL
 have HSZ := Lib.hid hL.size
 clear hL
 go_upto_region 0 with fail
 refine wp_region_lit ?_
 try simp only [Act.put, List.setIfInBounds_toArray, List.set_cons_zero]
 refine lp_pure (v := .bool false) rfl (ex_assign _ rfl rfl) ?_
 try simp only [Act.put, List.setIfInBounds_toArray, List.set_cons_zero]
 refine wpList_nil ?_
 go_upto_region 1 with fail
 refine wp_act (fun a0 ha0 => ?_)
 have zsz : a0.tmps.size = 38 := by rw [ha0]; rfl
 refine wrO [] slotsQaw1 waitQaw1 [Fct.obj 0 (fun v w => Ins w v ([1, 2])) (fun _ _ _ h he => h.flzT he), Fct.obj 1 (fun v w => Us w v (K12)) (fun _ _ _ h he => h.flz he), Fct.obj 2 (fun v w => Ins w v ([2, 3])) (fun _ _ _ h he => h.flzT he), Fct.obj 3 (fun v w => Us w v (K23)) (fun _ _ _ h he => h.flz he), (⟨([4, 1], fun f _ => f 4 = f 1), fun f f' _ _ h _ hd => (show f' 4 = f' 1 by rw [hd 4 (by simp), hd 1 (by simp)]; exact h)⟩ : Fct Flz), (⟨([5, 3], fun f _ => f 5 = f 3), fun f f' _ _ h _ hd => (show f' 5 = f' 3 by rw [hd 5 (by simp), hd 3 (by simp)]; exact h)⟩ : Fct Flz)] (fun w' => Below w0.heap.size w0 w') _ 6 0 chkQaw1 (by kernel_rfl) (by kernel_rfl) (by kernel_rfl) (by decide) (Below.refl _ _) ?_ ?_
 ·refine lt_s (lt_s (lt_s (lt_s (lt_s (lt_s (lt_0) ?_) ?_) ?_) ?_) ?_) ?_
  ·intro f w1 hS hf aA hA
   exact flw_wp rfl rfl (fun K hK => wp_lit_ints9 2 _ rfl (([1, 2] : List Int).map fun n => Value.int .i64 n).toArray (by decide) (by decide) (by kernel_rfl) (hK _ _ (hS.alloc hS.size _) (Flz.al _ _) (show Ins _ (updF f 0 _ 0) [1, 2] by rw [updF_self]; exact Ins.litE9 _ _ 2 rfl)))
  ·intro f w1 hS hf aA hA
   have hu0 : Ins w1 (f 0) ([1, 2]) := (hf 0 (by decide))
   have e8 := pA 8 0 hA sbQaw1 (by kernel_rfl) zsz rfl rfl
   exact flw_call rfl rfl 12 #[(.tmp 8)] _ rfl #[f 0] (mp1 e8) (fun w => by kernel_rfl) (fun v w' => Us w' v (K12)) (few16_us _ ([1, 2]) w1 (HL.out.keep (HB.out.trans (hS.mono HB.out.size)) HSZ.out) (by decide) hu0) (fun v w' hr hb => ⟨hS.trans (hb.mono hS.size), Flz.of hb, (show Us w' (updF f 1 v 1) (K12) by rw [updF_self]; exact hr)⟩)
  ·intro f w1 hS hf aA hA
   exact flw_wp rfl rfl (fun K hK => wp_lit_ints9 2 _ rfl (([2, 3] : List Int).map fun n => Value.int .i64 n).toArray (by decide) (by decide) (by kernel_rfl) (hK _ _ (hS.alloc hS.size _) (Flz.al _ _) (show Ins _ (updF f 2 _ 2) [2, 3] by rw [updF_self]; exact Ins.litE9 _ _ 2 rfl)))
  ·intro f w1 hS hf aA hA
   have hu2 : Ins w1 (f 2) ([2, 3]) := (hf 2 (by decide))
   have e10 := pA 10 2 hA sbQaw1 (by kernel_rfl) zsz rfl rfl
   exact flw_call rfl rfl 12 #[(.tmp 10)] _ rfl #[f 2] (mp1 e10) (fun w => by kernel_rfl) (fun v w' => Us w' v (K23)) (few16_us _ ([2, 3]) w1 (HL.out.keep (HB.out.trans (hS.mono HB.out.size)) HSZ.out) (by decide) hu2) (fun v w' hr hb => ⟨hS.trans (hb.mono hS.size), Flz.of hb, (show Us w' (updF f 3 v 3) (K23) by rw [updF_self]; exact hr)⟩)
  ·intro f w1 hS hf aA hA
   have hu1 : Us w1 (f 1) (K12) := (hf 1 (by decide))
   have e9 := pA 9 1 hA sbQaw1 (by kernel_rfl) zsz rfl rfl
   exact flw_val rfl rfl (f 1) (ex_assign (.tmp 9) rfl e9) hS (Flz.refl _) (show updF f 4 (f 1) 4 = updF f 4 (f 1) 1 by rw [updF_self, updF_ne f _ (by decide)])
  ·intro f w1 hS hf aA hA
   have hu3 : Us w1 (f 3) (K23) := (hf 3 (by decide))
   have e11 := pA 11 3 hA sbQaw1 (by kernel_rfl) zsz rfl rfl
   exact flw_val rfl rfl (f 3) (ex_assign (.tmp 11) rfl e11) hS (Flz.refl _) (show updF f 5 (f 3) 5 = updF f 5 (f 3) 3 by rw [updF_self, updF_ne f _ (by decide)])
 intro f u1 hS hf hap
 obtain ⟨v1_0, h0, hu0⟩ : ∃ v, f 0 = v ∧ Ins u1 v ([1, 2]) := ⟨_, rfl, (hf 0 (by decide))⟩
 clear hu0
 obtain ⟨v1_1, h1, hu1⟩ : ∃ v, f 1 = v ∧ Us u1 v (K12) := ⟨_, rfl, (hf 1 (by decide))⟩
 have HU1_1 := Lib.hid hu1
 clear hu1
 obtain ⟨v1_2, h2, hu2⟩ : ∃ v, f 2 = v ∧ Ins u1 v ([2, 3]) := ⟨_, rfl, (hf 2 (by decide))⟩
 clear hu2
 obtain ⟨v1_3, h3, hu3⟩ : ∃ v, f 3 = v ∧ Us u1 v (K23) := ⟨_, rfl, (hf 3 (by decide))⟩
 have HU1_3 := Lib.hid hu3
 clear hu3
 have h4 : f 4 = v1_1 := Eq.trans (hf 4 (by decide)) h1
 have h5 : f 5 = v1_3 := Eq.trans (hf 5 (by decide)) h3
 clear hf hap
 clear zsz
 subst ha0
 simp only [slotsQaw1, putAll, h0, h1, h2, h3, h4, h5, Act.put, List.setIfInBounds_toArray, List.set_cons_zero, List.set_cons_succ]
 clear h0 h1 h2 h3 h4 h5
 refine tl_nil ?_
 replace HB := Lib.hid (HB.out.trans (hS.mono HB.out.size))
 clear hS
 go_upto_region 2 with fail
 refine wp_act (fun a0 ha0 => ?_)
 have zsz : a0.tmps.size = 38 := by rw [ha0]; rfl
 have z1 : a0.eval (.tmp 1) = v1_1 := by rw [ha0]; rfl
 refine wrO [] slotsQaw2 waitQaw2 [Fct.val Flz 0 (v1_1), Fct.obj 1 (fun v w => ∃ zz, v = .tuple #[.agg #[.int .u64 5, zz], .int .i64 0] ∧ Cs w zz (tabP 5 30 (K12))) (fun _ _ _ ⟨zz, a, b⟩ he => ⟨zz, a, b.flz he⟩), Fct.obj 2 (fun v w => ∃ zz, v = .tuple #[.agg #[.int .u64 5, zz], .int .i64 0] ∧ Cs w zz (tabP 5 30 (K12))) (fun _ _ _ ⟨zz, a, b⟩ he => ⟨zz, a, b.flz he⟩), Fct.obj 3 (fun v w => ∃ zz, v = .agg #[.int .u64 5, zz] ∧ Cs w zz (tabP 5 30 (K12))) (fun _ _ _ ⟨zz, a, b⟩ he => ⟨zz, a, b.flz he⟩), Fct.val Flz 4 (.int .i64 0), Fct.obj 5 (fun v w => ∃ g, v = .pointer (some ⟨g, 0, none⟩) ∧ u1.heap.size ≤ g ∧ Has w g 28 ([.int .u64 0, .slice none 0 0])) (fun _ _ _ ⟨g, a, b, c⟩ he => ⟨g, a, b, c.flz he (by decide)⟩)] (fun w' => Below u1.heap.size u1 w') _ 6 2 chkQaw2 (by kernel_rfl) (by kernel_rfl) (by kernel_rfl) (by decide) (Below.refl _ _) ?_ ?_
 ·refine lt_s (lt_s (lt_s (lt_s (lt_s (lt_s (lt_0) ?_) ?_) ?_) ?_) ?_) ?_
  ·intro f w1 hS hf aA hA
   have r1 := qO 1 hA z1
   exact fV rfl rfl _ (ex_move (.tmp 1) rfl r1) hS uS
  ·intro f w1 hS hf aA hA
   have r13 := qA 13 0 hA sbQaw2 zsz (hf 0 (by decide))
   exact fC rfl rfl 11 #[_, _, (.tmp 13)] _ rfl #[.int .u64 5, .int .i64 30, v1_1] (by simp only [List.map_toArray, List.map_cons, List.map_nil, r13]; rfl) (fun w => by kernel_rfl) _ (ofA_t 5 30 30 _ (K12) (by decide : goodN 30 = true) (rfl : (30 : Int) = ((30 : Nat) : Int)) (asc_few [1, 2]) w1 (by decide) (HL.out.keep (HB.out.trans (hS.mono HB.out.size)) HSZ.out) (len_few [1, 2] 10000 (by decide)) (HU1_1.out.keep hS)) hS (fun _ _ ⟨zz, a, b⟩ => ⟨zz, uS.trans a, b⟩)
  ·intro f w1 hS hf aA hA
   obtain ⟨x14, hx14, hr14⟩ := hf 1 (by decide)
   have e14 := pA 14 1 hA sbQaw2 (by kernel_rfl) zsz rfl hx14
   exact flw_val rfl rfl (.tuple #[.agg #[.int .u64 5, x14], .int .i64 0]) (ex_move (.tmp 14) rfl e14) hS (Flz.refl _) ⟨x14, uS, hr14⟩
  ·intro f w1 hS hf aA hA
   obtain ⟨x12, hx12, hr12⟩ := hf 2 (by decide)
   have e12 := pA 12 2 hA sbQaw2 (by kernel_rfl) zsz rfl hx12
   exact flw_val rfl rfl (.agg #[.int .u64 5, x12]) (ex_extract (.tmp 12) 0 rfl e12 rfl) hS (Flz.refl _) ⟨x12, uS, hr12⟩
  ·intro f w1 hS hf aA hA
   obtain ⟨x12, hx12, hr12⟩ := hf 2 (by decide)
   have e12 := pA 12 2 hA sbQaw2 (by kernel_rfl) zsz rfl hx12
   exact fV rfl rfl _ (ex_extract (.tmp 12) 1 rfl e12 rfl) hS uS
  ·intro f w1 hS hf aA hA
   exact flw_wp rfl rfl (fun K hK => wp_alloc_row 28 rfl (.agg #[.int .u64 0, .slice none 0 0]) (fun w => by kernel_rfl) (hK _ _ (hS.alloc hS.size _) (Flz.al _ _) ⟨_, uS, hS.size, Has.made' _ _ _ _ rfl⟩))
 intro f x2 hS hf hap
 have h0 := eqL (hf 0 (by decide)) rfl
 obtain ⟨v2_1, h1, -⟩ := hf 1 (by decide)
 obtain ⟨v2_2, h2, -⟩ := hf 2 (by decide)
 obtain ⟨v2_3, h3, hu3⟩ := hf 3 (by decide)
 have HU2_3 := Lib.hid hu3
 clear hu3
 have h4 := eqL (hf 4 (by decide)) rfl
 obtain ⟨b2_5, h5, hgb5, hhb5⟩ := hf 5 (by decide)
 clear hf hap
 clear zsz z1
 subst ha0
 simp only [slotsQaw2, putAll, h0, h1, h2, h3, h4, h5, Act.put, List.setIfInBounds_toArray, List.set_cons_zero, List.set_cons_succ]
 clear h0 h1 h2 h3 h4 h5
 refine tl_store rfl (by kernel_rfl) 28 (.tmp 3) (.tmp 15) rfl b2_5 ([.int .u64 5, v2_3]) _ rfl rfl _ hhb5 (by kernel_rfl) rfl (tb_ones _ HU2_3.out.one) ?_
 intro u2 hp5 hbl hot
 replace hS := hS.trans (hbl _ hgb5)
 replace HU2_3 := Lib.hid (HU2_3.out.hotb hhb5 ⟨_, _, _, rfl⟩ (by decide) (hbl 0 (Nat.zero_le _)).size hot)
 clear hbl hot hhb5
 try simp only [Act.put]
 refine tl_pure rfl (by kernel_rfl) (.int .i64 0) (ex_assign (.tmp 16) rfl rfl) ?_
 try simp only [Act.put, List.setIfInBounds_toArray, List.set_cons_zero, List.set_cons_succ]
 refine tl_nil ?_
 replace HU1_1 := Lib.hid (HU1_1.out.keep hS)
 replace HU1_3 := Lib.hid (HU1_3.out.keep hS)
 have HBW := Lib.hid HB.out.size
 replace HB := Lib.hid (HB.out.trans (hS.mono HB.out.size))
 clear hS
 have HGb2_5 : Hid (w.heap.size ≤ b2_5) := Lib.hid (Nat.le_trans HBW.out hgb5)
 have HX_b2_5 : Hid (Has u2 b2_5 28 ([.int .u64 5, v2_3])) := Lib.hid hp5
 clear hp5 hgb5
 clear HBW
 go_upto_region 3 with fail
 refine wp_act (fun a0 ha0 => ?_)
 have zsz : a0.tmps.size = 38 := by rw [ha0]; rfl
 have z3 : a0.eval (.tmp 3) = .pointer (some ⟨b2_5, 0, none⟩) := by rw [ha0]; rfl
 have z2 : a0.eval (.tmp 2) = v1_3 := by rw [ha0]; rfl
 refine wrO [] slotsQaw3 waitQaw3 [Fct.val Flz 0 (.agg #[.int .u64 5, v2_3]), Fct.val Flz 1 (v1_3), Fct.obj 2 (fun v w => ∃ zz, v = .tuple #[(fl zz 0), (fl zz 1), .int .i64 0] ∧ OwnR (K1) (K3) w zz) (fun _ _ _ ⟨zz, a, b⟩ he => ⟨zz, a, b.flz he⟩), Fct.obj 3 (fun v w => ∃ zz, v = .tuple #[(fl zz 0), (fl zz 1), .int .i64 0] ∧ OwnR (K1) (K3) w zz) (fun _ _ _ ⟨zz, a, b⟩ he => ⟨zz, a, b.flz he⟩), Fct.obj 4 (fun v w => ∃ zz, v = (fl zz 0) ∧ OwnR (K1) (K3) w zz) (fun _ _ _ ⟨zz, a, b⟩ he => ⟨zz, a, b.flz he⟩), Fct.obj 5 (fun v w => ∃ zz, v = (fl zz 1) ∧ OwnR (K1) (K3) w zz) (fun _ _ _ ⟨zz, a, b⟩ he => ⟨zz, a, b.flz he⟩), Fct.val Flz 6 (.int .i64 0), Fct.obj 7 (fun v w => ∃ zz, v = (fl zz 0) ∧ OwnR (K1) (K3) w zz) (fun _ _ _ ⟨zz, a, b⟩ he => ⟨zz, a, b.flz he⟩), Fct.obj 8 (fun v w => ∃ zz, v = (fl zz 1) ∧ OwnR (K1) (K3) w zz) (fun _ _ _ ⟨zz, a, b⟩ he => ⟨zz, a, b.flz he⟩), Fct.val Flz 9 (.int .i64 0)] (fun w' => Below u2.heap.size u2 w') _ 10 0 chkQaw3 (by kernel_rfl) (by kernel_rfl) (by kernel_rfl) (by decide) (Below.refl _ _) ?_ ?_
 ·refine lt_s (lt_s (lt_s (lt_s (lt_s (lt_s (lt_s (lt_s (lt_s (lt_s (lt_0) ?_) ?_) ?_) ?_) ?_) ?_) ?_) ?_) ?_) ?_
  ·intro f w1 hS hf aA hA
   have r3 := qO 3 hA z3
   exact fV rfl rfl _ (ex_loadR 28 (.tmp 3) rfl ⟨b2_5, 0, none⟩ r3 (fun _ => by kernel_rfl) [.int .u64 5, v2_3] (by kernel_rfl) ((HX_b2_5.out.keepB hS).part [.int .u64 5, v2_3] 0 (fun j u hu => by rw [Nat.zero_add]; exact hu))) hS uS
  ·intro f w1 hS hf aA hA
   have r2 := qO 2 hA z2
   exact fV rfl rfl _ (ex_move (.tmp 2) rfl r2) hS uS
  ·intro f w1 hS hf aA hA
   have r18 := qA 18 0 hA sbQaw3 zsz (hf 0 (by decide))
   have r19 := qA 19 1 hA sbQaw3 zsz (hf 1 (by decide))
   exact fC rfl rfl 13 #[(.tmp 18), (.tmp 19)] _ rfl #[.agg #[.int .u64 5, v2_3], v1_3] (mp2 r18 r19) (fun w => by kernel_rfl) _ (ownR_t (K1) (K3) 5 _ (tabP 5 30 (K12)) _ (K23) (List.replicate 30 zC, [fewS 1], [fewS 3]) K_own K_ok rfl rfl w1 (by decide) (HL.out.keep (HB.out.trans (hS.mono HB.out.size)) HSZ.out) (tabP_small 1000000 (by decide)) (len_few [2, 3] 1000 (by decide)) (HU2_3.out.keep hS) (HU1_3.out.keep hS) (tabP_good (by decide)) (good_few [2, 3] (by decide))) hS (fun _ _ ⟨zz, a, b⟩ => ⟨zz, uS.trans a, b⟩)
  ·intro f w1 hS hf aA hA
   obtain ⟨x20, hx20, hr20⟩ := hf 2 (by decide)
   have e20 := pA 20 2 hA sbQaw3 (by kernel_rfl) zsz rfl hx20
   exact flw_val rfl rfl (.tuple #[(fl x20 0), (fl x20 1), .int .i64 0]) (ex_move (.tmp 20) rfl e20) hS (Flz.refl _) ⟨x20, uS, hr20⟩
  ·intro f w1 hS hf aA hA
   obtain ⟨x17, hx17, hr17⟩ := hf 3 (by decide)
   have e17 := pA 17 3 hA sbQaw3 (by kernel_rfl) zsz rfl hx17
   exact flw_val rfl rfl ((fl x17 0)) (ex_extract (.tmp 17) 0 rfl e17 rfl) hS (Flz.refl _) ⟨x17, uS, hr17⟩
  ·intro f w1 hS hf aA hA
   obtain ⟨x17, hx17, hr17⟩ := hf 3 (by decide)
   have e17 := pA 17 3 hA sbQaw3 (by kernel_rfl) zsz rfl hx17
   exact flw_val rfl rfl ((fl x17 1)) (ex_extract (.tmp 17) 1 rfl e17 rfl) hS (Flz.refl _) ⟨x17, uS, hr17⟩
  ·intro f w1 hS hf aA hA
   obtain ⟨x17, hx17, hr17⟩ := hf 3 (by decide)
   have e17 := pA 17 3 hA sbQaw3 (by kernel_rfl) zsz rfl hx17
   exact fV rfl rfl _ (ex_extract (.tmp 17) 2 rfl e17 rfl) hS uS
  ·intro f w1 hS hf aA hA
   obtain ⟨x21, hx21, hr21⟩ := hf 4 (by decide)
   have e21 := pA 21 4 hA sbQaw3 (by kernel_rfl) zsz rfl hx21
   exact flw_val rfl rfl ((fl x21 0)) (ex_assign (.tmp 21) rfl e21) hS (Flz.refl _) ⟨x21, uS, hr21⟩
  ·intro f w1 hS hf aA hA
   obtain ⟨x22, hx22, hr22⟩ := hf 5 (by decide)
   have e22 := pA 22 5 hA sbQaw3 (by kernel_rfl) zsz rfl hx22
   exact flw_val rfl rfl ((fl x22 1)) (ex_assign (.tmp 22) rfl e22) hS (Flz.refl _) ⟨x22, uS, hr22⟩
  ·intro f w1 hS hf aA hA
   have r23 := qA 23 6 hA sbQaw3 zsz (hf 6 (by decide))
   exact fV rfl rfl _ (ex_assign (.tmp 23) rfl r23) hS uS
 intro f u3 hS hf hap
 have h0 := eqL (hf 0 (by decide)) rfl
 have h1 := eqL (hf 1 (by decide)) rfl
 obtain ⟨v3_2, h2, -⟩ := hf 2 (by decide)
 obtain ⟨v3_3, h3, -⟩ := hf 3 (by decide)
 obtain ⟨v3_4, h4, -⟩ := hf 4 (by decide)
 obtain ⟨v3_5, h5, -⟩ := hf 5 (by decide)
 have h6 := eqL (hf 6 (by decide)) rfl
 obtain ⟨v3_7, h7, hu7⟩ := hf 7 (by decide)
 have HU3_7 := Lib.hid hu7
 clear hu7
 obtain ⟨v3_8, h8, hu8⟩ := hf 8 (by decide)
 have HU3_8 := Lib.hid hu8
 clear hu8
 have h9 := eqL (hf 9 (by decide)) rfl
 clear hf hap
 clear zsz z3 z2
 subst ha0
 simp only [slotsQaw3, putAll, h0, h1, h2, h3, h4, h5, h6, h7, h8, h9, Act.put, List.setIfInBounds_toArray, List.set_cons_zero, List.set_cons_succ]
 clear h0 h1 h2 h3 h4 h5 h6 h7 h8 h9
 refine tl_nil ?_
 replace HU1_1 := Lib.hid (HU1_1.out.keep hS)
 replace HU1_3 := Lib.hid (HU1_3.out.keep hS)
 replace HX_b2_5 := Lib.hid (HX_b2_5.out.keepB hS)
 replace HU2_3 := Lib.hid (HU2_3.out.keep hS)
 replace HB := Lib.hid (HB.out.trans (hS.mono HB.out.size))
 clear hS
 obtain ⟨y3, hz3⟩ : ∃ z, z = u3 := ⟨_, rfl⟩
 subst hz3
 go_upto_region 4 with fail
 refine wp_act (fun a0 ha0 => ?_)
 have zsz : a0.tmps.size = 38 := by rw [ha0]; rfl
 have z7 : a0.eval (.tmp 7) = .int .i64 0 := by rw [ha0]; rfl
 have z5 : a0.eval (.tmp 5) = (fl v3_7 0) := by rw [ha0]; rfl
 have z6 : a0.eval (.tmp 6) = (fl v3_8 1) := by rw [ha0]; rfl
 refine wrO [] slotsQaw4 waitQaw4 [Fct.val Flz 0 (.int .i64 0), Fct.val Flz 1 (.bool true), Fct.val Flz 2 (.bool true), Fct.val Flz 3 ((fl v3_7 0)), Fct.obj 4 (fun v w => Ins w v ([1])) (fun _ _ _ h he => h.flzT he), Fct.obj 5 (fun v w => Us w v (K1)) (fun _ _ _ h he => h.flz he), Fct.val Flz 6 (.bool true), Fct.val Flz 7 (.bool true), Fct.val Flz 8 (.bool true), Fct.val Flz 9 ((fl v3_8 1)), Fct.obj 10 (fun v w => Ins w v ([3])) (fun _ _ _ h he => h.flzT he), Fct.obj 11 (fun v w => Us w v (K3)) (fun _ _ _ h he => h.flz he), Fct.val Flz 12 (.bool true), Fct.val Flz 13 (.bool true)] (fun w' => Below y3.heap.size y3 w') _ 14 1 chkQaw4 (by kernel_rfl) (by kernel_rfl) (by kernel_rfl) (by decide) (Below.refl _ _) ?_ ?_
 ·refine lt_s (lt_s (lt_s (lt_s (lt_s (lt_s (lt_s (lt_s (lt_s (lt_s (lt_s (lt_s (lt_s (lt_s (lt_0) ?_) ?_) ?_) ?_) ?_) ?_) ?_) ?_) ?_) ?_) ?_) ?_) ?_) ?_
  ·intro f w1 hS hf aA hA
   have r7 := qO 7 hA z7
   exact fV rfl rfl _ (ex_move (.tmp 7) rfl r7) hS uS
  ·intro f w1 hS hf aA hA
   have r24 := qA 24 0 hA sbQaw4 zsz (hf 0 (by decide))
   exact fV rfl rfl _ (Eq.trans (ex_int .eql _ _ (.tmp 24) _ rfl .i64 0 0 r24 rfl (.bool ((0 : Int) == (0 : Int))) (fun _ => rfl)) (by rw [(by decide : ((0 : Int) == (0 : Int)) = true)])) hS uS
  ·intro f w1 hS hf aA hA
   have r25 := qA 25 1 hA sbQaw4 zsz (hf 1 (by decide))
   exact fV rfl rfl _ (ex_move (.tmp 25) rfl r25) hS uS
  ·intro f w1 hS hf aA hA
   have t26 := qG 26 2 hA sbQaw4 zsz (hf 2 (by decide))
   have r5 := qO 5 hA z5
   exact fV rfl ((wanted_of rfl 26 rfl t26).trans rfl) _ (ex_move (.tmp 5) rfl r5) hS uS
  ·intro f w1 hS hf aA hA
   have t26 := qG 26 2 hA sbQaw4 zsz (hf 2 (by decide))
   exact flw_wp rfl ((wanted_of rfl 26 rfl t26).trans rfl) (fun K hK => wp_lit_ints9 1 _ rfl (([1] : List Int).map fun n => Value.int .i64 n).toArray (by decide) (by decide) (by kernel_rfl) (hK _ _ (hS.alloc hS.size _) (Flz.al _ _) (show Ins _ (updF f 4 _ 4) [1] by rw [updF_self]; exact Ins.litE9 _ _ 1 rfl)))
  ·intro f w1 hS hf aA hA
   have t26 := qG 26 2 hA sbQaw4 zsz (hf 2 (by decide))
   have hu4 : Ins w1 (f 4) ([1]) := (hf 4 (by decide))
   have e28 := pA 28 4 hA sbQaw4 (by kernel_rfl) zsz rfl rfl
   exact flw_call rfl ((wanted_of rfl 26 rfl t26).trans rfl) 12 #[(.tmp 28)] _ rfl #[f 4] (mp1 e28) (fun w => by kernel_rfl) (fun v w' => Us w' v (K1)) (few16_us _ ([1]) w1 (HL.out.keep (HB.out.trans (hS.mono HB.out.size)) HSZ.out) (by decide) hu4) (fun v w' hr hb => ⟨hS.trans (hb.mono hS.size), Flz.of hb, (show Us w' (updF f 5 v 5) (K1) by rw [updF_self]; exact hr)⟩)
  ·intro f w1 hS hf aA hA
   have t26 := qG 26 2 hA sbQaw4 zsz (hf 2 (by decide))
   have r27 := qA 27 3 hA sbQaw4 zsz (hf 3 (by decide))
   have hu5 : Us w1 (f 5) (K1) := (hf 5 (by decide))
   have e29 := pA 29 5 hA sbQaw4 (by kernel_rfl) zsz rfl rfl
   exact fC rfl ((wanted_of rfl 26 rfl t26).trans rfl) 24 #[(.tmp 27), (.tmp 29)] _ rfl #[(fl v3_7 0), f 5] (mp2 r27 e29) (fun w => by kernel_rfl) _ (as_any (us_same (HU3_7.out.p.keep hS) hu5 (len_few [1] 10000 (by decide)) (len_few [1] 10000 (by decide))) (congrArg Value.bool (same_set (good_few [1] (by decide))))) hS (fun _ _ h => uS.trans h)
  ·intro f w1 hS hf aA hA
   have r26 := qA 26 2 hA sbQaw4 zsz (hf 2 (by decide))
   have r30 := qA 30 6 hA sbQaw4 zsz (hf 6 (by decide))
   exact fV rfl rfl (.bool true) (ex_pick (.tmp 26) (.tmp 30) _ rfl true r26 ((if_pos rfl).trans r30)) hS uS
  ·intro f w1 hS hf aA hA
   have r31 := qA 31 7 hA sbQaw4 zsz (hf 7 (by decide))
   exact fV rfl rfl _ (ex_move (.tmp 31) rfl r31) hS uS
  ·intro f w1 hS hf aA hA
   have t32 := qG 32 8 hA sbQaw4 zsz (hf 8 (by decide))
   have r6 := qO 6 hA z6
   exact fV rfl ((wanted_of rfl 32 rfl t32).trans rfl) _ (ex_move (.tmp 6) rfl r6) hS uS
  ·intro f w1 hS hf aA hA
   have t32 := qG 32 8 hA sbQaw4 zsz (hf 8 (by decide))
   exact flw_wp rfl ((wanted_of rfl 32 rfl t32).trans rfl) (fun K hK => wp_lit_ints9 1 _ rfl (([3] : List Int).map fun n => Value.int .i64 n).toArray (by decide) (by decide) (by kernel_rfl) (hK _ _ (hS.alloc hS.size _) (Flz.al _ _) (show Ins _ (updF f 10 _ 10) [3] by rw [updF_self]; exact Ins.litE9 _ _ 1 rfl)))
  ·intro f w1 hS hf aA hA
   have t32 := qG 32 8 hA sbQaw4 zsz (hf 8 (by decide))
   have hu10 : Ins w1 (f 10) ([3]) := (hf 10 (by decide))
   have e34 := pA 34 10 hA sbQaw4 (by kernel_rfl) zsz rfl rfl
   exact flw_call rfl ((wanted_of rfl 32 rfl t32).trans rfl) 12 #[(.tmp 34)] _ rfl #[f 10] (mp1 e34) (fun w => by kernel_rfl) (fun v w' => Us w' v (K3)) (few16_us _ ([3]) w1 (HL.out.keep (HB.out.trans (hS.mono HB.out.size)) HSZ.out) (by decide) hu10) (fun v w' hr hb => ⟨hS.trans (hb.mono hS.size), Flz.of hb, (show Us w' (updF f 11 v 11) (K3) by rw [updF_self]; exact hr)⟩)
  ·intro f w1 hS hf aA hA
   have t32 := qG 32 8 hA sbQaw4 zsz (hf 8 (by decide))
   have r33 := qA 33 9 hA sbQaw4 zsz (hf 9 (by decide))
   have hu11 : Us w1 (f 11) (K3) := (hf 11 (by decide))
   have e35 := pA 35 11 hA sbQaw4 (by kernel_rfl) zsz rfl rfl
   exact fC rfl ((wanted_of rfl 32 rfl t32).trans rfl) 24 #[(.tmp 33), (.tmp 35)] _ rfl #[(fl v3_8 1), f 11] (mp2 r33 e35) (fun w => by kernel_rfl) _ (as_any (us_same (HU3_8.out.m.keep hS) hu11 (len_few [3] 10000 (by decide)) (len_few [3] 10000 (by decide))) (congrArg Value.bool (same_set (good_few [3] (by decide))))) hS (fun _ _ h => uS.trans h)
  ·intro f w1 hS hf aA hA
   have r32 := qA 32 8 hA sbQaw4 zsz (hf 8 (by decide))
   have r36 := qA 36 12 hA sbQaw4 zsz (hf 12 (by decide))
   exact fV rfl rfl (.bool true) (ex_pick (.tmp 32) (.tmp 36) _ rfl true r32 ((if_pos rfl).trans r36)) hS uS
 intro f u4 hS hf hap
 have h0 := eqL (hf 0 (by decide)) rfl
 have h1 := eqL (hf 1 (by decide)) rfl
 have h2 := eqL (hf 2 (by decide)) rfl
 have h3 := eqL (hf 3 (by decide)) rfl
 obtain ⟨v4_4, h4, hu4⟩ : ∃ v, f 4 = v ∧ Ins u4 v ([1]) := ⟨_, rfl, (hf 4 (by decide))⟩
 have HU4_4 := Lib.hid hu4
 clear hu4
 obtain ⟨v4_5, h5, hu5⟩ : ∃ v, f 5 = v ∧ Us u4 v (K1) := ⟨_, rfl, (hf 5 (by decide))⟩
 have HU4_5 := Lib.hid hu5
 clear hu5
 have h6 := eqL (hf 6 (by decide)) rfl
 have h7 := eqL (hf 7 (by decide)) rfl
 have h8 := eqL (hf 8 (by decide)) rfl
 have h9 := eqL (hf 9 (by decide)) rfl
 obtain ⟨v4_10, h10, hu10⟩ : ∃ v, f 10 = v ∧ Ins u4 v ([3]) := ⟨_, rfl, (hf 10 (by decide))⟩
 have HU4_10 := Lib.hid hu10
 clear hu10
 obtain ⟨v4_11, h11, hu11⟩ : ∃ v, f 11 = v ∧ Us u4 v (K3) := ⟨_, rfl, (hf 11 (by decide))⟩
 have HU4_11 := Lib.hid hu11
 clear hu11
 have h12 := eqL (hf 12 (by decide)) rfl
 have h13 := eqL (hf 13 (by decide)) rfl
 clear hf hap
 clear zsz z7 z5 z6
 subst ha0
 simp only [slotsQaw4, putAll, h0, h1, h2, h3, h4, h5, h6, h7, h8, h9, h10, h11, h12, h13, Act.put, List.setIfInBounds_toArray, List.set_cons_zero, List.set_cons_succ]
 clear h0 h1 h2 h3 h4 h5 h6 h7 h8 h9 h10 h11 h12 h13
 have hBS := HB.out.trans (hS.mono HB.out.size)
 replace HU1_1 := Lib.hid (HU1_1.out.keep hS)
 replace HU1_3 := Lib.hid (HU1_3.out.keep hS)
 replace HX_b2_5 := Lib.hid (HX_b2_5.out.keepB hS)
 replace HU2_3 := Lib.hid (HU2_3.out.keep hS)
 replace HU3_7 := Lib.hid (HU3_7.out.keep hS)
 replace HU3_8 := Lib.hid (HU3_8.out.keep hS)
 clear hS
 refine tl_pure rfl (by kernel_rfl) (.bool true) (ex_assign (.tmp 37) rfl rfl) ?_
 try simp only [Act.put, List.setIfInBounds_toArray, List.set_cons_zero]
 refine tl_nil ?_
 replace HB := Lib.hid hBS
 clear hBS
 go_wp2_with fail
 go_ret
 exact ⟨⟨_, rfl, rfl⟩, HB.out⟩
theorem awake16_any  (w : World) (hL : Laid w) : Calls Tryd.prog 8 #[] w fun e w' => (∃ v, e = .returned v ∧ v = .bool true) ∧ Below w.heap.size w w' := awake16_b  w w (Below.refl _ _) hL
end Go.Proofs.YtnkcehmgagpadaaDoor
